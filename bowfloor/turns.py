"""Turns: steps from floor to floor that change one height, and the shortest ways made of them."""

from bowfloor.errors import NoTurn, OtherSize
from bowfloor.heights import floor_by, heights_of
from bowfloor.tables import is_number_tuple


def turns_of(floor):
    """The rising list of the turns that can be done with the floor."""
    return turns_with(heights_of(floor))


def turns_with(heights):
    """The rising list of the turns that can be done with the floor of these heights."""
    size = len(heights) - 1
    places = [(i, j, turn_at(heights, i, j)) for i in range(1, size) for j in range(1, size)]
    return [turn for turn in places if turn[2] != 0]


def turn_at(heights, i, j):
    """By how much the height at a place inside can be turned: 1, -1, or 0 where it can't be."""
    here = heights[i][j]
    climbs = (here - heights[i - 1][j], here - heights[i][j - 1], heights[i + 1][j] - here, heights[i][j + 1] - here)
    # Each climb is 0 or 1 and must be so afterwards, when those to here have grown and those from here shrunk.
    if climbs == (0, 0, 1, 1):
        return 1
    if climbs == (1, 1, 0, 0):
        return -1
    return 0


def can_be_done(heights, thing):
    """Whether it is a turn that can be done with the floor of these heights; of anything."""
    # Python takes True for 1 where it compares, so the kinds are asked first.
    return is_number_tuple(thing, 3) and thing in turns_with(heights)


def do_turn(heights, turn):
    """Change the heights that are handed in by a turn that can be done."""
    i, j, by = turn
    heights[i][j] += by


def floor_after(floor, turn):
    """The floor to which the turn leads."""
    heights = heights_of(floor)
    if not can_be_done(heights, turn):
        raise NoTurn("this is no turn that can be done")
    do_turn(heights, turn)
    return floor_by(heights)


def heights_of_both(one, other):
    """The heights of two floors of one size, each a new table."""
    here = heights_of(one)
    there = heights_of(other)
    if len(here) != len(there):
        raise OtherSize("the two floors have unlike sizes")
    return here, there


def gap_of(one, other):
    """The sum of how far the heights of two floors are from one another."""
    here, there = heights_of_both(one, other)
    return gap_between(here, there)


def gap_between(here, there):
    """The sum of how far two tables of heights are from one another."""
    return sum([abs(a - b) for row, other in zip(here, there) for a, b in zip(row, other)])


def way_between(one, other):
    """The list of as many turns as the gap that lead from one floor to the other, the least that fits each time."""
    here, there = heights_of_both(one, other)
    way = []
    while here != there:
        nearer = [turn for turn in turns_with(here) if leads_nearer(turn, here, there)]
        way.append(nearer[0])
        do_turn(here, nearer[0])
    return way


def leads_nearer(turn, here, there):
    """Whether a turn brings the heights nearer to those there."""
    i, j, by = turn
    return (there[i][j] - here[i][j]) * by > 0


def judge_way(one, other, way):
    """Whether it is a list of turns that leads from one floor to the other, none longer than needed; of anything."""
    here, there = heights_of_both(one, other)
    if not isinstance(way, list) or len(way) != gap_between(here, there):
        return False
    for turn in way:
        if not can_be_done(here, turn):
            return False
        do_turn(here, turn)
    return here == there
