"""Held places: bounds for single heights, and the least, the greatest and the nearest floor within them."""

from bowfloor.errors import HeldApart, NoHeld
from bowfloor.floors import GREATEST_SIZE, refuse_no_size
from bowfloor.heights import floor_by, heights_of
from bowfloor.tables import is_number_tuple


def is_held(thing, n):
    """Whether it is a list of bounds at places of a floor of size n; of anything."""
    return isinstance(thing, list) and all([is_held_part(part, n) for part in thing])


def is_held_part(thing, n):
    """Whether it is a tuple (i, j, low, high) for a place of a floor of size n; of anything."""
    if not is_number_tuple(thing, 4):
        return False
    i, j, low, high = thing
    return 0 <= i <= n and 0 <= j <= n


def refuse_no_held(thing, n):
    """Raise NoHeld if it is nothing that can be held in a floor of size n."""
    if not is_held(thing, n):
        raise NoHeld("this is no list of held places")


def keeps(floor, held):
    """Whether the floor keeps what is held."""
    heights = heights_of(floor)
    refuse_no_held(held, len(floor))
    return all([low <= heights[i][j] <= high for i, j, low, high in held])


def held_floors(n, held):
    """The tuple of the least and the greatest floor of size n that keep what is held."""
    refuse_no_size(n, GREATEST_SIZE)
    least, greatest = held_heights(n, held)
    return floor_by(least), floor_by(greatest)


def nearest_floor(floor, held):
    """The floor nearest to this one that keeps what is held."""
    heights = heights_of(floor)
    least, greatest = held_heights(len(floor), held)
    return floor_by([row_within(rows) for rows in zip(least, heights, greatest)])


def row_within(rows):
    """The middle one of three rows of heights, brought within the least and the greatest one."""
    return [max(low, min(here, high)) for low, here, high in zip(*rows)]


def free_places(n, held):
    """The rising list of the places at which not all floors of size n that keep what is held are alike."""
    refuse_no_size(n, GREATEST_SIZE)
    least, greatest = held_heights(n, held)
    return [(i, j) for i, j in places_of(n) if least[i][j] != greatest[i][j]]


def held_heights(n, held):
    """The heights of the least and of the greatest floor of size n that keep what is held."""
    refuse_no_held(held, n)
    bounds = bounds_by(n, held)
    refuse_apart(bounds)
    least = [[least_at(bounds, (i, j)) for j in range(n + 1)] for i in range(n + 1)]
    greatest = [[greatest_at(bounds, (i, j)) for j in range(n + 1)] for i in range(n + 1)]
    return least, greatest


def places_of(n):
    """The rising list of all places of the heights of size n."""
    return [(i, j) for i in range(n + 1) for j in range(n + 1)]


def rim_parts(n):
    """The rim, told as if it were held: there every floor has the same heights."""
    return [(i, j, min(i, j), min(i, j)) for i, j in places_of(n) if i in (0, n) or j in (0, n)]


def bounds_by(n, held):
    """For each place of the rim and each held one the tuple of its greatest low and its least high."""
    bounds = {}
    for i, j, low, high in rim_parts(n) + held:
        lowest, highest = bounds.get((i, j), (low, high))
        bounds[(i, j)] = (max(low, lowest), min(high, highest))
    return bounds


def fall_between(one, other):
    """By how much heights can fall from one place to the other."""
    i, j = one
    k, m = other
    return max(i - k, 0) + max(j - m, 0)


def refuse_apart(bounds):
    """Raise HeldApart with the least two places whose bounds no floor can keep, if there are any."""
    places = sorted(bounds)
    for one in places:
        low, high = bounds[one]
        for other in places:
            if low - fall_between(one, other) > bounds[other][1]:
                raise HeldApart(one, other)


def least_at(bounds, place):
    """The least height that a floor within the bounds has at the place."""
    return max([low - fall_between(other, place) for other, (low, high) in bounds.items()])


def greatest_at(bounds, place):
    """The greatest height that a floor within the bounds has at the place."""
    return min([high + fall_between(place, other) for other, (low, high) in bounds.items()])
