"""Heights: the sums of a floor's first rows and columns, and the way back from them."""

from bowfloor.errors import NoHeights
from bowfloor.floors import GREATEST_SIZE, refuse_no_floor
from bowfloor.tables import columns_of, is_number_square


def is_heights(thing):
    """Whether it is the heights of a floor; of anything."""
    if not is_number_square(thing, 2, GREATEST_SIZE + 1):
        return False
    return climb_to_their_numbers(thing) and climb_to_their_numbers(columns_of(thing))


def climb_to_their_numbers(lines):
    """Whether each line climbs from 0 to its own number among the lines."""
    return all([climbs_to(line, number) for number, line in enumerate(lines)])


def climbs_to(line, top):
    """Whether the line goes from 0 to the top by steps of 0 and 1."""
    if line[0] != 0 or line[-1] != top:
        return False
    return all([after - ahead in (0, 1) for ahead, after in zip(line, line[1:])])


def refuse_no_heights(thing):
    """Raise NoHeights if it is not the heights of a floor."""
    if not is_heights(thing):
        raise NoHeights("these are no heights")


def heights_of(floor):
    """The heights of the floor."""
    refuse_no_floor(floor)
    heights = [[0] * (len(floor) + 1)]
    for row in floor:
        heights.append(heights_below(heights[-1], row))
    return heights


def heights_below(above, row):
    """The row of heights beneath the row above, with the floor's row between them."""
    below = [0]
    total = 0
    for column, number in enumerate(row):
        total += number
        below.append(above[column + 1] + total)
    return below


def floor_by(heights):
    """The floor that has these heights."""
    refuse_no_heights(heights)
    size = len(heights) - 1
    return [[number_amid(heights, i, j) for j in range(size)] for i in range(size)]


def number_amid(heights, i, j):
    """The floor's number in row i, column j, from the four heights around it."""
    return heights[i + 1][j + 1] - heights[i + 1][j] - heights[i][j + 1] + heights[i][j]
