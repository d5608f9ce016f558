import copy
import unittest

from bowfloor.errors import NoFloor, TooMany
from bowfloor.floors import (all_floors, crossed_floor, floor_size, is_floor, mirrored_floor, plain_floor,
                             quartered_floor)
from tests import samples

TAKE_A_FLOOR = (floor_size, mirrored_floor, crossed_floor, quartered_floor)
TELL_A_FLOOR = (mirrored_floor, crossed_floor, quartered_floor)


class SamplesTest(unittest.TestCase):
    def test_samples_of_each_size_have_minus_ones(self):
        for n in range(3, 13):
            self.assertTrue(all(samples.count_minus_ones(floor) for floor in samples.BROKEN[n]), n)
            self.assertEqual([n] * 3, [len(floor) for floor in samples.BROKEN[n]])


class IsFloorTest(unittest.TestCase):
    def test_good_ones(self):
        for floor in samples.GOOD_FLOORS + [samples.SHARED_FLOOR]:
            self.assertIs(True, is_floor(floor), floor)

    def test_one_number_exchanged(self):
        for floor in [samples.BROKEN[n][0] for n in samples.SIZES] + samples.floors_by_words(3):
            for bent in samples.bent_numbers(floor):
                self.assertIs(False, is_floor(bent))

    def test_other_shapes(self):
        for n in samples.SIZES:
            for bent in samples.bent_shapes(samples.BROKEN[n][1]):
                self.assertIs(False, is_floor(bent))

    def test_rows_exchanged_or_doubled(self):
        seen = {True: 0, False: 0}
        for n in samples.SIZES:
            floor = samples.BROKEN[n][2]
            for one in range(n):
                for other in range(n):
                    rows = list(floor)
                    rows[one], rows[other] = rows[other], rows[one]
                    expected = samples.floor_by_words(rows)
                    self.assertIs(expected, is_floor(rows), rows)
                    rows = list(floor)
                    rows[one] = rows[other]
                    self.assertIs(samples.floor_by_words(rows), is_floor(rows), rows)
                    seen[expected] += 1
        self.assertTrue(seen[True] and seen[False])

    def test_all_small_tables(self):
        numbers = (-1, 0, 1)
        for a in numbers:
            self.assertIs(a == 1, is_floor([[a]]))
            for b in numbers:
                for c in numbers:
                    for d in numbers:
                        rows = [[a, b], [c, d]]
                        self.assertIs(samples.floor_by_words(rows), is_floor(rows), rows)

    def test_good_rows_with_bad_columns_and_the_reverse(self):
        bad_columns = [[0, 1, 0], [0, 1, 0], [1, -1, 1]]
        self.assertIs(False, is_floor(bad_columns))
        self.assertIs(False, is_floor([list(row) for row in zip(*bad_columns)]))
        begins_low = [[1, -1, 1], [0, 1, 0], [0, 1, 0]]
        self.assertIs(False, is_floor(begins_low))
        self.assertIs(False, is_floor([list(row) for row in zip(*begins_low)]))

    def test_sizes_nought_and_thirteen(self):
        for thing in ([], [[]], [[], []], samples.unit_floor(list(range(13))), samples.diamond_floor(13)):
            self.assertIs(False, is_floor(thing), thing)
        self.assertIs(True, is_floor(samples.unit_floor(list(range(12)))))
        self.assertIs(True, is_floor(samples.diamond_floor(11)))

    def test_long_things(self):
        self.assertIs(False, is_floor(samples.unit_floor(list(range(300)))))
        self.assertIs(False, is_floor([[1] + [0] * 299]))
        self.assertIs(False, is_floor([[1]] * 300))

    def test_things_of_other_kinds(self):
        for thing in samples.SINGLE_THINGS:
            self.assertIs(False, is_floor(thing), thing)
            self.assertIs(repr(thing) == "[1]", is_floor([thing]), thing)
            self.assertIs(repr(thing) == "1", is_floor([[thing]]), thing)

    def test_things_nested_very_deep(self):
        for thing in samples.DEEP_THINGS:
            self.assertIs(False, is_floor(thing))

    def test_nothing_is_changed(self):
        for thing in [samples.BROKEN[5][0], [[1, 0], [0]], [[True]], [[2]], []]:
            before = copy.deepcopy(thing)
            self.assertIs(is_floor(thing), is_floor(thing))
            self.assertEqual(before, thing)


class TurnedFloorsTest(samples.Promises, unittest.TestCase):
    def test_floor_size(self):
        for floor in samples.GOOD_FLOORS:
            self.assertEqual(len(floor), floor_size(floor))
            self.assertIs(int, type(floor_size(floor)))

    def test_mirrored_floor(self):
        for floor in samples.GOOD_FLOORS:
            n = len(floor)
            self.assertEqual([[floor[i][n - 1 - j] for j in range(n)] for i in range(n)], mirrored_floor(floor))

    def test_crossed_floor(self):
        for floor in samples.GOOD_FLOORS:
            n = len(floor)
            self.assertEqual([[floor[j][i] for j in range(n)] for i in range(n)], crossed_floor(floor))

    def test_quartered_floor(self):
        for floor in samples.GOOD_FLOORS:
            n = len(floor)
            self.assertEqual([[floor[n - 1 - j][i] for j in range(n)] for i in range(n)], quartered_floor(floor))

    def test_one_floor_written_out(self):
        floor = [[0, 1, 0, 0], [1, -1, 0, 1], [0, 0, 1, 0], [0, 1, 0, 0]]
        self.assertEqual([[0, 0, 1, 0], [1, 0, -1, 1], [0, 1, 0, 0], [0, 0, 1, 0]], mirrored_floor(floor))
        self.assertEqual([[0, 1, 0, 0], [1, -1, 0, 1], [0, 0, 1, 0], [0, 1, 0, 0]], crossed_floor(floor))
        self.assertEqual([[0, 0, 1, 0], [1, 0, -1, 1], [0, 1, 0, 0], [0, 0, 1, 0]], quartered_floor(floor))
        wheel = [[0, 0, 1, 0], [1, 0, 0, 0], [0, 1, -1, 1], [0, 0, 1, 0]]
        self.assertEqual([[0, 1, 0, 0], [0, 0, 0, 1], [1, -1, 1, 0], [0, 1, 0, 0]], mirrored_floor(wheel))
        self.assertEqual([[0, 1, 0, 0], [0, 0, 1, 0], [1, 0, -1, 1], [0, 0, 1, 0]], crossed_floor(wheel))
        self.assertEqual([[0, 0, 1, 0], [0, 1, 0, 0], [1, -1, 0, 1], [0, 1, 0, 0]], quartered_floor(wheel))

    def test_what_is_told_is_a_floor(self):
        for floor in samples.GOOD_FLOORS:
            for function in TELL_A_FLOOR:
                self.assertIs(True, is_floor(function(floor)))

    def test_what_is_told_is_the_askers_own(self):
        even = [samples.SHARED_FLOOR, [[1]], samples.diamond_floor(5), samples.diamond_floor(11)]
        for floor in even:
            for function in TELL_A_FLOOR:
                self.assertEqual(floor, function(floor))
        for floor in even + samples.floors_by_words(3) + [samples.BROKEN[n][0] for n in samples.SIZES]:
            for function in TAKE_A_FLOOR:
                if floor is not samples.SHARED_FLOOR:
                    self.assert_own(function, floor)

    def test_one_list_at_two_places(self):
        for function in TAKE_A_FLOOR:
            answer = function(samples.SHARED_FLOOR)
            lists = samples.inner_lists(answer)
            self.assertEqual(len(lists), len({id(rows) for rows in lists}))
            samples.spoil(answer)
            self.assertEqual([[0, 1, 0], [1, -1, 1], [0, 1, 0]], samples.SHARED_FLOOR)


class PlainFloorTest(samples.Promises, unittest.TestCase):
    def test_each_size(self):
        for n in samples.SIZES:
            self.assertEqual([[int(i == j) for j in range(n)] for i in range(n)], plain_floor(n))
            self.assertEqual({int}, {type(number) for row in plain_floor(n) for number in row})
            self.assert_own(plain_floor, n)

    def test_refusals(self):
        for thing in [0, 13, 14, 300, -1, -12, 10 ** 29, -10 ** 29, True, False, None, "", "1", "3", (), (3,), [], [3],
                      [[1]], samples.nested(list), samples.nested(tuple)]:
            self.assert_refused(TooMany, plain_floor, thing)


class AllFloorsTest(samples.Promises, unittest.TestCase):
    def test_counts(self):
        self.assertEqual([1, 2, 7, 42, 429], [len(all_floors(n)) for n in range(1, 6)])

    def test_small_ones_written_out(self):
        self.assertEqual([[[1]]], all_floors(1))
        self.assertEqual([[[0, 1], [1, 0]], [[1, 0], [0, 1]]], all_floors(2))

    def test_all_tables_tried(self):
        for n in (1, 2, 3, 4):
            self.assertEqual(samples.floors_by_words(n), all_floors(n))

    def test_rising_and_floors_throughout(self):
        for n in range(1, 6):
            floors = all_floors(n)
            self.assertTrue(all(ahead < after for ahead, after in zip(floors, floors[1:])))
            for floor in floors:
                self.assertEqual([n] * n, [len(row) for row in floor])
                self.assertTrue(samples.floor_by_words(floor))
                self.assertIs(True, is_floor(floor))

    def test_what_is_told_is_the_askers_own(self):
        for n in range(1, 6):
            self.assert_own(all_floors, n)

    def test_changing_one_told_row_changes_no_other(self):
        floors = all_floors(4)
        floors[0][0][0] = 7
        self.assertEqual(1, sum(7 in row for floor in floors for row in floor))
        self.assertFalse(any(7 in row for floor in all_floors(4) for row in floor))

    def test_refusals(self):
        for thing in [0, 6, 7, 12, 13, -1, -5, 10 ** 29, -10 ** 29, True, False, None, "", "1", "3", (), (3,), [], [3],
                      [[1]], samples.nested(list), samples.nested(tuple)]:
            self.assert_refused(TooMany, all_floors, thing)


class NoFloorTest(samples.Promises, unittest.TestCase):
    def test_things_of_all_kinds(self):
        for function in TAKE_A_FLOOR:
            for thing in samples.SINGLE_THINGS + samples.DEEP_THINGS:
                self.assert_refused(NoFloor, function, thing)
            for thing in ([[]], [[0]], [[-1]], [[True]], [["1"]], [[2]], ((1,),), [(1,)], ([1],)):
                self.assert_refused(NoFloor, function, thing)
            self.assert_refused(NoFloor, function, samples.unit_floor(list(range(13))))

    def test_bent_floors(self):
        for function in TAKE_A_FLOOR:
            for n in (1, 2, 3, 5, 12):
                for bent in samples.bent_shapes(samples.BROKEN[n][0]):
                    self.assert_refused(NoFloor, function, bent)
            for bent in samples.bent_numbers(samples.BROKEN[4][0]):
                self.assert_refused(NoFloor, function, bent)

    def test_heights_are_no_floor(self):
        for function in TAKE_A_FLOOR:
            self.assert_refused(NoFloor, function, [[0, 0], [0, 1]])

    def test_a_refusal_changes_nothing(self):
        for function in TAKE_A_FLOOR:
            thing = [[1, 0, 0], [0, 1, 0], [0, 0, True]]
            before = copy.deepcopy(thing)
            self.assert_refused(NoFloor, function, thing)
            self.assertEqual(repr(before), repr(thing))
            thing[2][2] = 1
            function(thing)


if __name__ == "__main__":
    unittest.main()
