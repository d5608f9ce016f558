"""Numbers, and rows, tuples and square tables of them, as all other modules check and read them."""


def is_number(thing):
    """Whether it is a whole number."""
    # Python counts True and False among the integers, the document does not.
    return isinstance(thing, int) and not isinstance(thing, bool)


def is_number_between(thing, least, greatest):
    """Whether it is a whole number from least to greatest."""
    return is_number(thing) and least <= thing <= greatest


def is_number_row(thing, length):
    """Whether it is a list of so many whole numbers."""
    return isinstance(thing, list) and len(thing) == length and all(is_number(part) for part in thing)


def is_number_tuple(thing, length):
    """Whether it is a tuple of so many whole numbers."""
    return isinstance(thing, tuple) and len(thing) == length and all(is_number(part) for part in thing)


def is_number_square(thing, least, greatest):
    """Whether it is a list of as many rows of whole numbers as each of them is long, from least to greatest."""
    if not isinstance(thing, list) or not least <= len(thing) <= greatest:
        return False
    return all(is_number_row(row, len(thing)) for row in thing)


def columns_of(table):
    """The columns of a table, each as a new list."""
    return [list(column) for column in zip(*table)]
