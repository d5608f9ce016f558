"""Texts: floors and patterns as they are written, and read again."""

from bowfloor.errors import NoText
from bowfloor.floors import is_floor, refuse_no_floor
from bowfloor.patterns import is_pattern, join_ends, refuse_no_pattern

SIGNS = {1: "+", 0: "0", -1: "-"}
NUMBERS = {"+": 1, "0": 0, "-": -1}


def shown_floor(floor):
    """The floor, written row by row."""
    refuse_no_floor(floor)
    return "\n".join(["".join([SIGNS[number] for number in row]) for row in floor])


def shown_pattern(pattern):
    """The pattern, written as a bracket for each end."""
    refuse_no_pattern(pattern)
    return "".join(["(" if partner > end else ")" for end, partner in enumerate(pattern)])


def read_floor(text):
    """The floor that the text writes; of anything."""
    floor = rows_written(text) if isinstance(text, str) else None
    if not is_floor(floor):
        raise NoText("this writes no floor")
    return floor


def rows_written(text):
    """The rows of numbers that the text writes, with None for a sign that writes no number."""
    return [[NUMBERS.get(sign) for sign in line] for line in text.split("\n")]


def read_pattern(text):
    """The pattern that the text writes; of anything."""
    pattern = partners_written(text) if isinstance(text, str) else None
    if not is_pattern(pattern):
        raise NoText("this writes no pattern")
    return pattern


def partners_written(text):
    """For each sign the number of the bracket that matches it, or None where none does."""
    partners = [None] * len(text)
    begun = []
    for end, sign in enumerate(text):
        if sign == "(":
            begun.append(end)
        elif sign == ")" and begun:
            join_ends(partners, begun.pop(), end)
    return partners
