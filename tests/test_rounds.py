import copy
import unittest

from bowfloor.errors import NoFloor, NoRest, TooMany
from bowfloor.floors import is_floor
from bowfloor.patterns import pattern_turned
from bowfloor.rounds import half_round, round_back, round_count, round_of, rounds_of
from bowfloor.ways import bows_of
from tests import samples

ALL = {n: samples.floors_by_words(n) for n in (1, 2, 3, 4)}
FLOORS = [floor for floors in ALL.values() for floor in floors] + samples.HOOPED
FLOORS += [floor for n in samples.SIZES for floor in samples.BROKEN[n]]
FLOORS += [samples.unit_floor(list(range(n))) for n in samples.SIZES] + [samples.diamond_floor(n) for n in (5, 7, 11)]


def half_by_words(floor, rest):
    """Point 15, word by word: each turn that can be done with the floor, at places of the rest, is done."""
    n = len(floor)
    after = floor
    for i in range(1, n):
        for j in range(1, n):
            for by in (1, -1):
                if (i + j) % 2 == rest and samples.floor_by_words(samples.stepped_table(floor, i, j, by)):
                    after = samples.stepped_table(after, i, j, by)
    return after


def round_by_words(floor):
    return half_by_words(half_by_words(floor, 0), 1)


class HalfRoundTest(samples.Promises, unittest.TestCase):
    def test_written_out(self):
        plain = [[1, 0, 0], [0, 1, 0], [0, 0, 1]]
        self.assertEqual([[0, 1, 0], [1, -1, 1], [0, 1, 0]], half_round(plain, 0))
        self.assertEqual(plain, half_round(plain, 1))
        self.assertEqual(plain, half_round(samples.SHARED_FLOOR, 0))
        self.assertEqual([[0, 0, 1], [0, 1, 0], [1, 0, 0]], half_round(samples.SHARED_FLOOR, 1))
        self.assertEqual([[1]], half_round([[1]], 0))
        self.assertEqual([[1]], half_round([[1]], 1))

    def test_by_words(self):
        for floor in FLOORS:
            for rest in (0, 1):
                told = half_round(floor, rest)
                self.assertEqual(half_by_words(floor, rest), told)
                self.assertIs(True, is_floor(told))

    def test_done_twice(self):
        for floor in FLOORS:
            for rest in (0, 1):
                self.assertEqual(floor, half_round(half_round(floor, rest), rest))

    def test_just_the_places_of_the_rest_change(self):
        for floor in FLOORS:
            for rest in (0, 1):
                before = samples.heights_by_words(floor)
                after = samples.heights_by_words(half_round(floor, rest))
                for i, row in enumerate(after):
                    for j, height in enumerate(row):
                        self.assertTrue(height == before[i][j] or (i + j) % 2 == rest)

    def test_what_is_no_rest(self):
        for thing in samples.no_numbers_between(0, 1):
            for floor in ([[1]], samples.SHARED_FLOOR, samples.BROKEN[12][0]):
                self.assert_refused(NoRest, half_round, floor, thing)


class RoundTest(samples.Promises, unittest.TestCase):
    def test_written_out(self):
        self.assertEqual([[1]], round_of([[1]]))
        self.assertEqual([[1]], round_back([[1]]))
        self.assertEqual([[0, 1], [1, 0]], round_of([[1, 0], [0, 1]]))
        self.assertEqual([[0, 1], [1, 0]], round_back([[1, 0], [0, 1]]))
        plain = [[1, 0, 0], [0, 1, 0], [0, 0, 1]]
        self.assertEqual([[0, 0, 1], [0, 1, 0], [1, 0, 0]], round_of(plain))
        self.assertEqual([[0, 1, 0], [1, -1, 1], [0, 1, 0]], round_back(plain))

    def test_two_halves(self):
        for floor in FLOORS:
            self.assertEqual(half_by_words(half_by_words(floor, 0), 1), round_of(floor))
            self.assertEqual(half_by_words(half_by_words(floor, 1), 0), round_back(floor))

    def test_they_undo_one_another(self):
        for floor in FLOORS:
            self.assertEqual(floor, round_back(round_of(floor)))
            self.assertEqual(floor, round_of(round_back(floor)))

    def test_bows_go_round(self):
        for floor in FLOORS:
            after, ahead = round_of(floor), round_back(floor)
            for colour, by in (("dark", 1), ("light", -1)):
                bows = bows_of(floor, colour)
                self.assertEqual(pattern_turned(bows, by), bows_of(after, colour))
                self.assertEqual(pattern_turned(bows, -by), bows_of(ahead, colour))

    def test_the_two_rounds_are_not_the_same(self):
        self.assertTrue(any(round_of(floor) != round_back(floor) for floor in ALL[3]))


class RoundsOfTest(samples.Promises, unittest.TestCase):
    def test_each_the_round_of_the_one_ahead(self):
        for floor in FLOORS[::6] + [samples.BROKEN[12][0]]:
            for many in (0, 1, 2, 7):
                told = rounds_of(floor, many)
                self.assertEqual(many + 1, len(told))
                self.assertEqual(floor, told[0])
                for ahead, after in zip(told, told[1:]):
                    self.assertEqual(round_by_words(ahead), after)

    def test_sixty(self):
        for floor in ([[1]], samples.SHARED_FLOOR, samples.BROKEN[5][0], samples.BROKEN[12][1]):
            told = rounds_of(floor, 60)
            self.assertEqual(61, len(told))
            self.assertEqual(floor, told[0])
            for ahead, after in zip(told, told[1:]):
                self.assertEqual(round_of(ahead), after)
            self.assertEqual(bows_of(floor, "dark"), bows_of(told[4 * len(floor)], "dark"))

    def test_equal_floors_are_lists_of_their_own(self):
        for floor in ([[1]], [[1, 0], [0, 1]], *ALL[3]):
            for many in (0, 1, 60):
                told = rounds_of(floor, many)
                lists = samples.inner_lists(told)
                self.assertEqual(1 + (many + 1) * (1 + len(floor)), len({id(rows) for rows in lists}))
        told = rounds_of([[1]], 60)
        told[0][0][0] = 5
        self.assertEqual([[[5]]] + [[[1]]] * 60, told)

    def test_one_list_at_two_places(self):
        told = rounds_of(samples.SHARED_FLOOR, 0)
        told[0][0][0] = 5
        self.assertEqual([[[5, 1, 0], [1, -1, 1], [0, 1, 0]]], told)
        self.assertEqual([[0, 1, 0], [1, -1, 1], [0, 1, 0]], samples.SHARED_FLOOR)

    def test_what_is_too_many(self):
        for thing in samples.no_numbers_between(0, 60) + [61, 62, 100, -1, -60]:
            for floor in ([[1]], samples.SHARED_FLOOR, samples.BROKEN[12][0]):
                self.assert_refused(TooMany, rounds_of, floor, thing)


class RoundCountTest(samples.Promises, unittest.TestCase):
    def test_written_out(self):
        self.assertEqual(1, round_count([[1]]))
        self.assertEqual([2, 2], [round_count(floor) for floor in ALL[2]])
        self.assertEqual([2, 2, 2, 2, 3, 3, 3], sorted(round_count(floor) for floor in ALL[3]))

    def test_all_floors(self):
        for n in range(1, 6):
            floors = ALL[n] if n < 5 else fives()
            after = {repr(floor): repr(round_by_words(floor)) for floor in floors}
            self.assertEqual([1, 2, 7, 42, 429][n - 1], len(after))
            for floor in floors:
                name, count = after[repr(floor)], 1
                while name != repr(floor):
                    name, count = after[name], count + 1
                self.assertEqual(count, round_count(floor))
                self.assertIs(int, type(round_count(floor)))

    def test_greater_floors(self):
        for n in range(6, 13):
            for floor in samples.BROKEN[n] + [samples.unit_floor(list(range(n)))]:
                self.assert_refused(TooMany, round_count, floor)


def fives():
    """All floors of size 5, found by going from one to the next."""
    found = [samples.unit_floor(list(range(5)))]
    names = {repr(found[0])}
    for floor in found:
        for i in range(1, 5):
            for j in range(1, 5):
                for by in (1, -1):
                    after = samples.stepped_table(floor, i, j, by)
                    if repr(after) not in names and samples.floor_by_words(after):
                        names.add(repr(after))
                        found.append(after)
    return found


class PromisesTest(samples.Promises, unittest.TestCase):
    def test_what_is_told_is_the_askers_own(self):
        for floor in FLOORS:
            for function in (round_of, round_back):
                self.assert_own(function, floor)
            for rest in (0, 1):
                self.assert_own(half_round, floor, rest)
            if len(floor) < 6:
                self.assert_own(round_count, floor)
        for floor in FLOORS[::9] + [[[1]], [[1, 0], [0, 1]]]:
            for many in (0, 1, 13):
                self.assert_own(rounds_of, floor, many)
        self.assert_own(rounds_of, samples.BROKEN[4][0], 60)

    def test_what_is_no_floor(self):
        for thing in samples.NO_FLOORS:
            for function in (round_of, round_back, round_count):
                self.assert_refused(NoFloor, function, thing)
            for number in (0, 1, 2, 61, -1, None, True, "0", samples.nested(list)):
                self.assert_refused(NoFloor, half_round, thing, number)
                self.assert_refused(NoFloor, rounds_of, thing, number)

    def test_a_refusal_changes_nothing(self):
        floor = copy.deepcopy(samples.BROKEN[6][0])
        self.assert_refused(NoRest, half_round, floor, True)
        self.assert_refused(TooMany, rounds_of, floor, True)
        self.assert_refused(TooMany, round_count, floor)
        self.assertEqual(samples.BROKEN[6][0], floor)


if __name__ == "__main__":
    unittest.main()
