"""Rounds: all turns of a floor at once, so that its bows go round the rim by one end."""

from bowfloor.errors import NoRest, TooMany
from bowfloor.floors import refuse_no_floor, refuse_no_size
from bowfloor.heights import floor_by, heights_of
from bowfloor.tables import is_number_between
from bowfloor.turns import do_turn, turns_with

MOST_ROUNDS = 60
GREATEST_COUNTED_SIZE = 5


def half_round(floor, rest):
    """The floor with each turn done that can be, at the places whose row and column sum leaves the rest by 2."""
    refuse_no_floor(floor)
    if not is_number_between(rest, 0, 1):
        raise NoRest("the rest is neither 0 nor 1")
    heights = heights_of(floor)
    # A turn looks only at the places beside its own, which leave the other rest: so all are found ahead.
    turns = [(i, j, by) for i, j, by in turns_with(heights) if (i + j) % 2 == rest]
    for turn in turns:
        do_turn(heights, turn)
    return floor_by(heights)


def round_of(floor):
    """The floor one round on: its dark bows turned by 1, its light ones by -1."""
    return half_round(half_round(floor, 0), 1)


def round_back(floor):
    """The floor of which this one is the round."""
    return half_round(half_round(floor, 1), 0)


def refuse_no_rounds(thing):
    """Raise TooMany if it is no number of rounds."""
    if not is_number_between(thing, 0, MOST_ROUNDS):
        raise TooMany(f"the rounds are no whole number from 0 to {MOST_ROUNDS}")


def rounds_of(floor, many):
    """The list of the floor and so many more, each the round of the one ahead."""
    refuse_no_floor(floor)
    refuse_no_rounds(many)
    floors = [[list(row) for row in floor]]
    for count in range(many):
        floors.append(round_of(floors[-1]))
    return floors


def round_count(floor):
    """The least number of rounds behind which the floor is there again, for sizes 1 to 5."""
    refuse_no_floor(floor)
    refuse_no_size(len(floor), GREATEST_COUNTED_SIZE)
    count = 1
    after = round_of(floor)
    while after != floor:
        after = round_of(after)
        count += 1
    return count
