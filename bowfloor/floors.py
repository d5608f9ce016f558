"""Floors: square tables of 1, 0 and -1 with 1 and -1 by turns in each row and column."""

from bowfloor.errors import NoFloor, TooMany
from bowfloor.tables import columns_of, is_number_between, is_number_square

GREATEST_SIZE = 12
GREATEST_LISTED_SIZE = 5


def is_floor(thing):
    """Whether it is a floor; of anything."""
    if not is_number_square(thing, 1, GREATEST_SIZE):
        return False
    return all(goes_by_turns(line) for line in thing + columns_of(thing))


def goes_by_turns(line):
    """Whether 1 and -1 stand in it by turns among noughts, the first and the last one 1."""
    # Sums that are never other than 0 and 1 are just what turns from 1 to -1 and back leave behind.
    total = 0
    for number in line:
        total += number
        if total not in (0, 1):
            return False
    return total == 1


def refuse_no_floor(thing):
    """Raise NoFloor if it is no floor."""
    if not is_floor(thing):
        raise NoFloor("this is no floor")


def refuse_no_size(thing, greatest):
    """Raise TooMany if it is no whole number from 1 to the greatest."""
    if not is_number_between(thing, 1, greatest):
        raise TooMany(f"the size is no whole number from 1 to {greatest}")


def floor_size(floor):
    """How many rows the floor has."""
    refuse_no_floor(floor)
    return len(floor)


def plain_floor(n):
    """The floor of size n with 1 where row and column have the same number."""
    refuse_no_size(n, GREATEST_SIZE)
    return [[1 if i == j else 0 for j in range(n)] for i in range(n)]


def mirrored_floor(floor):
    """The floor with each row from last to first."""
    refuse_no_floor(floor)
    return [row[::-1] for row in floor]


def crossed_floor(floor):
    """The floor with rows and columns exchanged."""
    refuse_no_floor(floor)
    return columns_of(floor)


def quartered_floor(floor):
    """The floor turned by a quarter: its columns, read from below, are the rows."""
    refuse_no_floor(floor)
    return [column[::-1] for column in columns_of(floor)]


def all_floors(n):
    """The rising list of all floors of size n, n from 1 to 5."""
    refuse_no_size(n, GREATEST_LISTED_SIZE)
    lines = all_lines(n)
    begun = [[]]
    for count in range(n):
        begun = [rows + [line] for rows in begun for line in lines if can_follow(rows, line)]
    # Floors that begin alike share their rows up to here; those told are the asker's own.
    return [[list(row) for row in rows] for rows in begun]


def all_lines(n):
    """The rising list of all rows that a floor of size n can have."""
    begun = [[]]
    for count in range(n):
        begun = [line + [number] for line in begun for number in (-1, 0, 1) if sum(line) + number in (0, 1)]
    return [line for line in begun if sum(line) == 1]


def can_follow(rows, line):
    """Whether each column's sum is still 0 or 1 when the line stands beneath the rows."""
    # No column can be left at 0 in the end: n rows have the sum n, and no column more than 1 of it.
    return all(sum(column) in (0, 1) for column in columns_of(rows + [line]))
