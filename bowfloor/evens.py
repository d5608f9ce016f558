"""Even floors: those that stay as they are when they are mirrored, crossed or turned."""

from bowfloor.floors import all_floors, crossed_floor, mirrored_floor, quartered_floor

EVEN_WORDS = ("mirrored", "crossed", "half", "quarter")


def even_words(floor):
    """The list of the words by which the floor is even, in their order."""
    return [word for word, image in zip(EVEN_WORDS, images_of(floor)) if image == floor]


def images_of(floor):
    """What comes of the floor by each of the even words."""
    quarter = quartered_floor(floor)
    return [mirrored_floor(floor), crossed_floor(floor), quartered_floor(quarter), quarter]


def even_counts(n):
    """How many floors of size n, n from 1 to 5, are even by each of the even words."""
    told = [even_words(floor) for floor in all_floors(n)]
    return [sum([words.count(word) for words in told]) for word in EVEN_WORDS]
