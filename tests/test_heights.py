import copy
import unittest

from bowfloor.errors import NoFloor, NoHeights
from bowfloor.floors import all_floors
from bowfloor.heights import floor_by, heights_of, is_heights
from tests import samples


GOOD_HEIGHTS = [samples.heights_by_words(floor) for floor in samples.GOOD_FLOORS]
BROKEN = {n: [samples.heights_by_words(floor) for floor in samples.BROKEN[n]] for n in samples.SIZES}


class IsHeightsTest(unittest.TestCase):
    def test_good_ones(self):
        for heights in GOOD_HEIGHTS:
            self.assertIs(True, is_heights(heights), heights)

    def test_one_number_exchanged(self):
        seen = {True: 0, False: 0}
        for n in samples.SIZES:
            for bent in samples.bent_numbers(BROKEN[n][0]):
                plain = all(type(number) is int for row in bent for number in row)
                expected = plain and samples.heights_by_rules(bent)
                self.assertIs(expected, is_heights(bent))
                seen[expected] += 1
        self.assertTrue(seen[True] and seen[False])

    def test_other_shapes(self):
        for n in samples.SIZES:
            for bent in samples.bent_shapes(BROKEN[n][1]):
                self.assertIs(False, is_heights(bent))

    def test_rows_exchanged_or_doubled(self):
        for n in samples.SIZES:
            for one in range(n + 1):
                for other in range(n + 1):
                    if one != other:
                        rows = list(BROKEN[n][2])
                        rows[one], rows[other] = rows[other], rows[one]
                        self.assertIs(False, is_heights(rows))
                        rows[one] = rows[other]
                        self.assertIs(False, is_heights(rows))

    def test_each_rule_on_its_own(self):
        self.assertIs(True, is_heights([[0, 0, 0], [0, 0, 1], [0, 1, 2]]))
        self.assertIs(True, is_heights([[0, 0, 0], [0, 1, 1], [0, 1, 2]]))
        for bent in ([[0, 0, 0], [0, 2, 1], [0, 1, 2]], [[0, 0, 0], [0, -1, 1], [0, 1, 2]],
                     [[0, 0, 1], [0, 1, 1], [0, 1, 2]], [[0, 0, 0], [0, 1, 1], [1, 1, 2]],
                     [[0, 0, 0], [0, 1, 1], [0, 1, 1]], [[0, 0, 0], [0, 1, 2], [0, 1, 2]],
                     [[0, 0, 0], [0, 1, 1], [0, 2, 2]], [[1, 1, 1], [1, 2, 2], [1, 2, 3]],
                     [[0, 0, 0], [0, 0, 0], [0, 0, 0]], [[2, 2, 2], [2, 1, 1], [2, 1, 0]]):
            self.assertIs(False, is_heights(bent), bent)
        level_falls = [[0, 0, 0, 0], [0, 1, 0, 1], [0, 1, 1, 2], [0, 1, 2, 3]]
        upright_leaps = [[0, 0, 0, 0], [0, 0, 0, 1], [0, 1, 2, 2], [0, 1, 2, 3]]
        for bent in (level_falls, upright_leaps):
            self.assertIs(False, is_heights(bent), bent)
            self.assertIs(False, is_heights([list(row) for row in zip(*bent)]), bent)

    def test_sizes_nought_and_thirteen(self):
        thirteen = samples.heights_by_words(samples.unit_floor(list(range(13))))
        for thing in ([], [[]], [[0]], [[], []], thirteen):
            self.assertIs(False, is_heights(thing), thing)
        self.assertIs(True, is_heights([[0, 0], [0, 1]]))
        self.assertIs(True, is_heights(samples.heights_by_words(samples.unit_floor(list(range(12))))))

    def test_things_of_other_kinds(self):
        for thing in samples.SINGLE_THINGS + samples.DEEP_THINGS:
            self.assertIs(False, is_heights(thing))
            self.assertIs(False, is_heights([thing]))
            self.assertIs(False, is_heights([[thing]]))
            self.assertIs(False, is_heights([[0, 0], thing]))
        for thing in samples.WRONG_NUMBERS:
            self.assertIs(False, is_heights([[0, 0], [0, thing]]))
            self.assertIs(False, is_heights([[thing, 0], [0, 1]]))

    def test_nothing_is_changed(self):
        for thing in [BROKEN[5][0], [[0, 0], [0]], [[0, 0], [0, True]], []]:
            before = copy.deepcopy(thing)
            self.assertIs(is_heights(thing), is_heights(thing))
            self.assertEqual(repr(before), repr(thing))


class ThereAndBackTest(samples.Promises, unittest.TestCase):
    def test_each_number_is_the_sum_that_is_told(self):
        for floor in samples.GOOD_FLOORS:
            heights = heights_of(floor)
            n = len(floor)
            self.assertEqual([n + 1] * (n + 1), [len(row) for row in heights])
            for i in range(n + 1):
                for j in range(n + 1):
                    self.assertEqual(samples.height_by_words(floor, i, j), heights[i][j])
                    self.assertIs(int, type(heights[i][j]))

    def test_written_out(self):
        floor = [[0, 0, 1, 0], [1, 0, 0, 0], [0, 1, -1, 1], [0, 0, 1, 0]]
        heights = [[0, 0, 0, 0, 0], [0, 0, 0, 1, 1], [0, 1, 1, 2, 2], [0, 1, 2, 2, 3], [0, 1, 2, 3, 4]]
        self.assertEqual(heights, heights_of(floor))
        self.assertEqual(floor, floor_by(heights))
        self.assertEqual([[0, 0], [0, 1]], heights_of([[1]]))
        self.assertEqual([[1]], floor_by([[0, 0], [0, 1]]))

    def test_they_lead_to_one_another(self):
        for floor in samples.GOOD_FLOORS + [samples.SHARED_FLOOR]:
            heights = samples.heights_by_words(floor)
            self.assertIs(True, is_heights(heights_of(floor)))
            self.assertEqual(floor, floor_by(heights_of(floor)))
            self.assertEqual(floor, floor_by(heights))
            self.assertEqual(heights, heights_of(floor_by(heights)))

    def test_each_heights_of_just_one_floor(self):
        for n in range(1, 6):
            floors = all_floors(n)
            self.assertEqual(floors, [floor_by(heights_of(floor)) for floor in floors])
            self.assertEqual(len(floors), len({repr(heights_of(floor)) for floor in floors}))

    def test_what_is_told_is_the_askers_own(self):
        for n in samples.SIZES:
            for floor in samples.BROKEN[n]:
                self.assert_own(heights_of, floor)
            for heights in BROKEN[n]:
                self.assert_own(floor_by, heights)

    def test_one_list_at_two_places(self):
        answer = heights_of(samples.SHARED_FLOOR)
        samples.spoil(answer)
        self.assertEqual([[0, 1, 0], [1, -1, 1], [0, 1, 0]], samples.SHARED_FLOOR)


class RefusalsTest(samples.Promises, unittest.TestCase):
    def test_things_of_all_kinds(self):
        for thing in samples.SINGLE_THINGS + samples.DEEP_THINGS:
            self.assert_refused(NoFloor, heights_of, thing)
            self.assert_refused(NoHeights, floor_by, thing)

    def test_each_is_refused_as_the_other_one(self):
        self.assert_refused(NoFloor, heights_of, [[0, 0], [0, 1]])
        self.assert_refused(NoHeights, floor_by, [[1, 0], [0, 1]])
        self.assert_refused(NoHeights, floor_by, [[1]])

    def test_bent_floors_and_heights(self):
        for n in (1, 2, 3, 5, 12):
            for bent in samples.bent_shapes(samples.BROKEN[n][0]):
                self.assert_refused(NoFloor, heights_of, bent)
            for bent in samples.bent_shapes(BROKEN[n][0]):
                self.assert_refused(NoHeights, floor_by, bent)
        for bent in samples.bent_numbers(samples.BROKEN[4][0]):
            self.assert_refused(NoFloor, heights_of, bent)
        for bent in samples.bent_numbers(BROKEN[4][0]):
            if not is_heights(bent):
                self.assert_refused(NoHeights, floor_by, bent)

    def test_true_and_false_are_no_numbers(self):
        self.assert_refused(NoFloor, heights_of, [[True]])
        self.assert_refused(NoFloor, heights_of, [[1, False], [0, 1]])
        self.assert_refused(NoHeights, floor_by, [[0, 0], [0, True]])
        self.assert_refused(NoHeights, floor_by, [[False, 0], [0, 1]])

    def test_sizes_nought_and_thirteen(self):
        thirteen = samples.unit_floor(list(range(13)))
        self.assert_refused(NoFloor, heights_of, thirteen)
        self.assert_refused(NoHeights, floor_by, samples.heights_by_words(thirteen))
        self.assert_refused(NoHeights, floor_by, [[0]])

    def test_a_refusal_changes_nothing(self):
        heights = [[0, 0], [0, True]]
        self.assert_refused(NoHeights, floor_by, heights)
        self.assertEqual("[[0, 0], [0, True]]", repr(heights))
        self.assertEqual([[1]], floor_by([[0, 0], [0, 1]]))


if __name__ == "__main__":
    unittest.main()
