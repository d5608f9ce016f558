"""Counts: how many floors have each pattern of bows, by the floors and by pressing alone."""

from bowfloor.floors import GREATEST_LISTED_SIZE, all_floors, refuse_no_size
from bowfloor.patterns import GREATEST_LISTED_PATTERNS, all_patterns, pattern_pressed, refuse_no_pattern
from bowfloor.tables import is_number_row
from bowfloor.ways import DARK, bows_of


def pattern_counts(n):
    """For each pattern of size n, n from 1 to 5, how many floors have it as their dark bows."""
    told = [bows_of(floor, DARK) for floor in all_floors(n)]
    return [told.count(pattern) for pattern in all_patterns(n)]


def floors_with(pattern):
    """The rising list of the floors whose dark bows are the pattern, for sizes 1 to 5."""
    refuse_no_pattern(pattern)
    floors = all_floors(len(pattern) // 2)
    return [floor for floor in floors if bows_of(floor, DARK) == pattern]


def pressed_counts(n):
    """The same as pattern_counts, without any floor: the numbers that pressing keeps in balance."""
    refuse_no_size(n, GREATEST_LISTED_SIZE)
    numbers = numbers_in_balance(balance_rows(n))
    divisor = common_divisor(numbers)
    return [number // divisor for number in numbers]


def judge_counts(n, counts):
    """Whether it is the list of the counts for size n, n from 1 to 6; of anything as counts."""
    refuse_no_size(n, GREATEST_LISTED_PATTERNS)
    rows = balance_rows(n)
    if not is_number_row(counts, len(rows)) or min(counts) < 1 or common_divisor(counts) != 1:
        return False
    return all([sum([part * number for part, number in zip(row, counts)]) == 0 for row in rows])


def balance_rows(n):
    """For each pattern the row of factors by which the numbers of all patterns, where in balance, come to 0."""
    patterns = all_patterns(n)
    places = {tuple(pattern): at for at, pattern in enumerate(patterns)}
    rows = [[0] * len(patterns) for pattern in patterns]
    for at, pattern in enumerate(patterns):
        rows[at][at] += 2 * n
        for end in range(2 * n):
            pressed = places[tuple(pattern_pressed(pattern, end))]
            rows[pressed][at] -= 1
    return rows


def numbers_in_balance(rows):
    """Whole numbers above 0 by which every row comes to 0."""
    divisor = 1
    for at in range(len(rows) - 1):
        # Pressing leads from each pattern to each other one, so the factor taken here is above 0 each time.
        factor = rows[at][at]
        rows = [row if k == at else row_cleared(row, rows[at], at, divisor) for k, row in enumerate(rows)]
        divisor = factor
    # Each row but the last one has now only the divisor, at its own place, and a factor of the last number.
    return [-row[-1] for row in rows[:-1]] + [divisor]


def row_cleared(row, taken, at, divisor):
    """The row with 0 at a place, by means of another row that is not 0 there."""
    # No rest is left: what is divided is a minor of all the rows times the factor taken the step before.
    return [(taken[at] * part - row[at] * other) // divisor for part, other in zip(row, taken)]


def common_divisor(numbers):
    """The greatest number that divides all the numbers, which are above 0."""
    divisor = 0
    for number in numbers:
        rest = number
        while rest != 0:
            divisor, rest = rest, divisor % rest
    return divisor
