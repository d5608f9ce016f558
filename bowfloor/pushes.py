"""Pushes: turns that are tried one after the other, on one floor or from both ends."""

from bowfloor.errors import NoPushes
from bowfloor.floors import GREATEST_SIZE
from bowfloor.heights import floor_by, heights_of
from bowfloor.held import held_floors
from bowfloor.tables import is_number_between, is_number_tuple
from bowfloor.turns import do_turn, turn_at


def is_pushes(thing):
    """Whether it is a list of pushes; of anything."""
    return isinstance(thing, list) and all([is_push(part) for part in thing])


def is_push(thing):
    """Whether it is a tuple (i, j, by) that may be a turn of some floor; of anything."""
    if not is_number_tuple(thing, 3):
        return False
    i, j, by = thing
    return is_number_between(i, 1, GREATEST_SIZE) and is_number_between(j, 1, GREATEST_SIZE) and by in (1, -1)


def refuse_no_pushes(thing):
    """Raise NoPushes if it is no list of pushes."""
    if not is_pushes(thing):
        raise NoPushes("these are no pushes")


def do_push(heights, push):
    """Change the heights that are handed in by a push where it can be done, else leave them as they are."""
    i, j, by = push
    size = len(heights) - 1
    if i < size and j < size and turn_at(heights, i, j) == by:
        do_turn(heights, push)


def pushed_floor(floor, pushes):
    """The floor that comes of the pushes, one after the other."""
    heights = heights_of(floor)
    refuse_no_pushes(pushes)
    for push in pushes:
        do_push(heights, push)
    return floor_by(heights)


def ends_met(n, pushes):
    """Behind how many pushes the least and the greatest floor of size n are one, or None where they never are."""
    least, greatest = [heights_of(floor) for floor in held_floors(n, [])]
    refuse_no_pushes(pushes)
    if least == greatest:
        return 0
    for ahead, push in enumerate(pushes):
        do_push(least, push)
        do_push(greatest, push)
        if least == greatest:
            return ahead + 1
    return None
