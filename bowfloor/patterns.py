"""Patterns: which end is whose partner around the rim, by bows that do not cross."""

from bowfloor.errors import NoEnd, NoNumber, NoPattern
from bowfloor.floors import GREATEST_SIZE, refuse_no_size
from bowfloor.tables import is_number, is_number_between

GREATEST_LISTED_PATTERNS = 6


def is_pattern(thing):
    """Whether it is a pattern; of anything."""
    if not isinstance(thing, list) or len(thing) % 2 == 1 or not 2 <= len(thing) <= 2 * GREATEST_SIZE:
        return False
    if not all([is_number_between(part, 0, len(thing) - 1) for part in thing]):
        return False
    return are_partners(thing) and bows_keep_apart(thing)


def are_partners(partners):
    """Whether each end has another end as its partner, whose partner it is."""
    return all([partner != end and partners[partner] == end for end, partner in enumerate(partners)])


def bows_keep_apart(partners):
    """Whether no two bows cross, each end being its partner's partner."""
    begun = []
    for end, partner in enumerate(partners):
        if partner > end:
            begun.append(end)
        # Bows that do not cross close in turn, the one begun last first.
        elif begun.pop() != partner:
            return False
    return True


def refuse_no_pattern(thing):
    """Raise NoPattern if it is no pattern."""
    if not is_pattern(thing):
        raise NoPattern("this is no pattern")


def all_patterns(n):
    """The rising list of all patterns of size n, n from 1 to 6."""
    refuse_no_size(n, GREATEST_LISTED_PATTERNS)
    by_size = [[[]]]
    for size in range(1, n + 1):
        by_size.append(patterns_from_lesser(by_size, size))
    return by_size[n]


def patterns_from_lesser(by_size, size):
    """The rising list of the patterns of a size, from those of all lesser sizes, 0 among them."""
    # The farther end 0's partner is, the more bows lie within: so the list rises by itself.
    return [bow_around(within, behind) for inner in range(size)
            for within in by_size[inner] for behind in by_size[size - 1 - inner]]


def bow_around(within, behind):
    """A bow from end 0 around one pattern, with another one behind it."""
    close = len(within) + 1
    return [close] + [partner + 1 for partner in within] + [0] + [partner + close + 1 for partner in behind]


def next_to(pattern, end):
    """The end next to an end."""
    return (end + 1) % len(pattern)


def pattern_turned(pattern, by):
    """The pattern with all its ends' numbers greater by so many, around the rim."""
    refuse_no_pattern(pattern)
    if not is_number(by):
        raise NoNumber("this is no whole number")
    many = len(pattern)
    return [(pattern[(end - by) % many] + by) % many for end in range(many)]


def pattern_mirrored(pattern):
    """The pattern with its ends counted from last to first."""
    refuse_no_pattern(pattern)
    last = len(pattern) - 1
    return [last - partner for partner in pattern[::-1]]


def short_bows(pattern):
    """The rising list of the ends whose partner is next to them."""
    refuse_no_pattern(pattern)
    return [end for end, partner in enumerate(pattern) if partner == next_to(pattern, end)]


def bows_over(pattern):
    """The rising list of the bows, each with how many others lie over it."""
    refuse_no_pattern(pattern)
    bows = [(end, partner) for end, partner in enumerate(pattern) if end < partner]
    return [(a, b, len([c for c, d in bows if c < a and d > b])) for a, b in bows]


def pattern_pressed(pattern, end):
    """The pattern with the end and the one next to it pressed together into a bow."""
    refuse_no_pattern(pattern)
    if not is_number_between(end, 0, len(pattern) - 1):
        raise NoEnd("this is no number of an end")
    after = next_to(pattern, end)
    pressed = list(pattern)
    if pattern[end] != after:
        join_ends(pressed, pattern[end], pattern[after])
        join_ends(pressed, end, after)
    return pressed


def join_ends(partners, one, other):
    """Make two ends partners in the list that is handed in."""
    partners[one] = other
    partners[other] = one
