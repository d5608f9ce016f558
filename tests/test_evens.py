import copy
import unittest

from bowfloor.errors import NoFloor, TooMany
from bowfloor.evens import even_counts, even_words
from tests import samples

WORDS = ["mirrored", "crossed", "half", "quarter"]
ALL = {n: samples.floors_by_rows(n) for n in range(1, 6)}
# Floors greater than those of ALL, with the words by which each is even.
GREATER = [(samples.drawn_floor(text), words) for text, words in (
    ("+00000/0+0000/00+000/000+00/0000+0/00000+", ["crossed", "half"]),
    ("0+0000/00+000/+00000/00000+/000+00/0000+0", ["half"]),
    ("00+000/+00000/0+0000/0000+0/00000+/000+00", ["half"]),
    ("00+000/0000+0/+00000/000+00/0+0000/00000+", ["crossed"]),
    ("0+000000/0000000+/000+0000/00000+00/00+00000/0000+000/+0000000/000000+0", ["half", "quarter"]),
    ("000+000/00+-+00/000+000/0+0-0+0/000+000/+00-00+/000+000", ["mirrored"]),
    ("00000+/00+000/0+0000/000+00/0000+0/+00000", ["crossed"]),
    ("+00000/00+000/000+00/0000+0/0+0000/00000+", []))]


def even_by_words(floor):
    """Point 21, word by word, by single numbers."""
    n = len(floor)
    places = [(i, j) for i in range(n) for j in range(n)]
    last = n - 1
    held = {"mirrored": all(floor[i][j] == floor[i][last - j] for i, j in places),
            "crossed": all(floor[i][j] == floor[j][i] for i, j in places),
            "half": all(floor[i][j] == floor[last - i][last - j] for i, j in places),
            "quarter": all(floor[i][j] == floor[last - j][i] for i, j in places)}
    return [word for word in WORDS if held[word]]


class EvenWordsTest(samples.Promises, unittest.TestCase):
    def test_written_out(self):
        self.assertEqual(WORDS, even_words([[1]]))
        self.assertEqual(["crossed", "half"], even_words([[1, 0], [0, 1]]))
        self.assertEqual(["crossed", "half"], even_words([[0, 1], [1, 0]]))
        self.assertEqual(WORDS, even_words(samples.SHARED_FLOOR))
        self.assertEqual([], even_words([[0, 1, 0], [0, 0, 1], [1, 0, 0]]))
        self.assertEqual(["half", "quarter"], even_words([[0, 1, 0, 0], [0, 0, 0, 1], [1, 0, 0, 0], [0, 0, 1, 0]]))

    def test_all_small_floors(self):
        for n in (1, 2, 3, 4, 5):
            for floor in ALL[n]:
                self.assertEqual(even_by_words(floor), even_words(floor))

    def test_greater_floors(self):
        for floor, words in GREATER:
            self.assertTrue(samples.floor_by_words(floor))
            self.assertEqual(words, even_by_words(floor))
            self.assertEqual(words, even_words(floor))
        for floor in samples.GOOD_FLOORS:
            self.assertEqual(even_by_words(floor), even_words(floor))
        for n in (7, 9, 11):
            self.assertEqual(WORDS, even_words(samples.diamond_floor(n)))

    def test_each_word_alone_where_it_can_be(self):
        told = [even_words(floor) for floors in ALL.values() for floor in floors]
        for words in ([], ["mirrored"], ["crossed"], ["half"], ["crossed", "half"], ["half", "quarter"], WORDS):
            self.assertIn(words, told)

    def test_what_is_told_is_the_askers_own(self):
        for floor in ALL[3] + [floor for floor, words in GREATER] + [samples.BROKEN[12][0]]:
            self.assert_own(even_words, floor)
        self.assertEqual(WORDS, even_words(samples.SHARED_FLOOR))
        self.assertEqual([[0, 1, 0], [1, -1, 1], [0, 1, 0]], samples.SHARED_FLOOR)

    def test_refusals(self):
        for thing in samples.NO_FLOORS:
            self.assert_refused(NoFloor, even_words, thing)
        for bent in samples.bent_shapes(samples.BROKEN[3][0]):
            self.assert_refused(NoFloor, even_words, bent)
        thing = [[1, 0], [0, True]]
        before = copy.deepcopy(thing)
        self.assert_refused(NoFloor, even_words, thing)
        self.assertEqual(repr(before), repr(thing))


class EvenCountsTest(samples.Promises, unittest.TestCase):
    def test_written_out(self):
        self.assertEqual([1, 1, 1, 1], even_counts(1))
        self.assertEqual([0, 2, 2, 0], even_counts(2))
        self.assertEqual([1, 5, 3, 1], even_counts(3))

    def test_all_floors(self):
        for n in range(1, 6):
            told = [even_by_words(floor) for floor in ALL[n]]
            self.assertEqual([sum(word in words for words in told) for word in WORDS], even_counts(n))
            self.assertEqual([int] * 4, [type(count) for count in even_counts(n)])

    def test_what_is_told_is_the_askers_own(self):
        for n in range(1, 6):
            self.assert_own(even_counts, n)

    def test_refusals(self):
        for thing in samples.no_numbers_between(1, 5) + [6, 12, [[1]]]:
            self.assert_refused(TooMany, even_counts, thing)


if __name__ == "__main__":
    unittest.main()
