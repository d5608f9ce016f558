import copy
import itertools
import unittest

from bowfloor.errors import NoFloor, NoTurn, OtherSize
from bowfloor.floors import is_floor
from bowfloor.turns import floor_after, gap_of, judge_way, turns_of, way_between
from tests import samples

ALL = {n: samples.floors_by_words(n) for n in (1, 2, 3, 4)}
LEAST = {n: samples.unit_floor(list(range(n))[::-1]) for n in samples.SIZES}
GREATEST = {n: samples.unit_floor(list(range(n))) for n in samples.SIZES}
BY_TWO_FLOORS = (gap_of, way_between)
FLOORS = [floor for floors in ALL.values() for floor in floors] + samples.HOOPED
FLOORS += [floor for n in samples.SIZES for floor in samples.BROKEN[n] + [LEAST[n], GREATEST[n]]]


def can_be_done(floor, i, j, by):
    """Point 13, word by word: the heights with one of them changed are heights."""
    heights = samples.heights_by_words(floor)
    heights[i][j] += by
    return samples.heights_by_rules(heights)


def turns_by_words(floor):
    n = len(floor)
    places = itertools.product(range(1, n), range(1, n), (-1, 1))
    return [(i, j, by) for i, j, by in places if samples.floor_by_words(samples.stepped_table(floor, i, j, by))]


def gap_by_words(one, other):
    pairs = zip(samples.heights_by_words(one), samples.heights_by_words(other))
    return sum(abs(a - b) for row, beside in pairs for a, b in zip(row, beside))


def pairs_of_floors():
    for n in (1, 2, 3):
        yield from itertools.product(ALL[n], repeat=2)
    yield from itertools.product(ALL[4][::5], ALL[4][::4])
    for n in samples.SIZES:
        yield from itertools.permutations([samples.BROKEN[n][0], LEAST[n], GREATEST[n]], 2)
        yield samples.BROKEN[n][1], samples.BROKEN[n][2]
        yield samples.BROKEN[n][1], copy.deepcopy(samples.BROKEN[n][1])


PAIRS = list(pairs_of_floors())
SOME_PAIRS = PAIRS[::7] + PAIRS[-12:]


def other_short_way(one, other):
    """A way as short as can be that takes the greatest turn each time."""
    floor, way = one, []
    target = samples.heights_by_words(other)
    while floor != other:
        heights = samples.heights_by_words(floor)
        way.append(max((i, j, by) for i, j, by in turns_by_words(floor) if (target[i][j] - heights[i][j]) * by > 0))
        floor = samples.stepped_table(floor, *way[-1])
    return way


class TurnsOfTest(samples.Promises, unittest.TestCase):
    def test_written_out(self):
        self.assertEqual([], turns_of([[1]]))
        self.assertEqual([(1, 1, -1)], turns_of([[1, 0], [0, 1]]))
        self.assertEqual([(1, 1, 1)], turns_of([[0, 1], [1, 0]]))
        self.assertEqual([(1, 1, 1), (1, 2, -1), (2, 1, -1), (2, 2, 1)], turns_of(samples.SHARED_FLOOR))
        self.assertEqual([(1, 1, -1), (2, 2, -1)], turns_of([[1, 0, 0], [0, 1, 0], [0, 0, 1]]))

    def test_just_those_that_can_be_done_in_rising_order(self):
        for floor in FLOORS:
            told = turns_of(floor)
            self.assertEqual(turns_by_words(floor), told)
            self.assertEqual(sorted(set(told)), told)
            self.assertEqual(len(told), len({(i, j) for i, j, by in told}))

    def test_by_the_heights(self):
        for floor in FLOORS[::3]:
            n = len(floor)
            places = itertools.product(range(1, n), range(1, n), (-1, 1))
            self.assertEqual([place for place in places if can_be_done(floor, *place)], turns_of(floor))

    def test_what_is_told_is_the_askers_own(self):
        for floor in FLOORS:
            self.assert_own(turns_of, floor)


class FloorAfterTest(samples.Promises, unittest.TestCase):
    def test_written_out(self):
        self.assertEqual([[0, 1], [1, 0]], floor_after([[1, 0], [0, 1]], (1, 1, -1)))
        self.assertEqual([[1, 0], [0, 1]], floor_after([[0, 1], [1, 0]], (1, 1, 1)))
        self.assertEqual([[1, 0, 0], [0, 0, 1], [0, 1, 0]], floor_after(samples.SHARED_FLOOR, (1, 1, 1)))

    def test_one_height_alone_is_another(self):
        for floor in FLOORS:
            for i, j, by in turns_of(floor):
                after = floor_after(floor, (i, j, by))
                self.assertIs(True, is_floor(after))
                heights = samples.heights_by_words(floor)
                heights[i][j] += by
                self.assertEqual(heights, samples.heights_by_words(after))
                self.assertEqual(floor, floor_after(after, (i, j, -by)))

    def test_every_other_turn_is_refused(self):
        for floor in FLOORS:
            n = len(floor)
            done = turns_of(floor)
            for turn in itertools.product(range(-1, n + 2), range(-1, n + 2), (-2, -1, 0, 1, 2)):
                if turn not in done:
                    self.assert_refused(NoTurn, floor_after, floor, turn)

    def test_things_that_are_no_turns(self):
        for floor in ([[1]], [[1, 0], [0, 1]], samples.SHARED_FLOOR, samples.BROKEN[4][0], samples.BROKEN[12][0]):
            for thing in samples.ANYTHING:
                self.assert_refused(NoTurn, floor_after, floor, thing)
            for i, j, by in turns_of(floor):
                for thing in ([i, j, by], (i, j), (i, j, by, by), (i, j, by, 0), ((i, j, by),), [(i, j, by)],
                              (i, j, str(by)), (str(i), j, by), (i, str(j), by), (i, j, None), (None, j, by),
                              (i, (j,), by), ([i], j, by), (i, j, [by]), (i, j, -by), (i, j, 0), (i, j, 2 * by),
                              (i + 10 ** 29, j, by), (i, j - 10 ** 29, by), (i, j, 10 ** 29), ((i, j), by),
                              (i, j, samples.nested(list)), (samples.nested(tuple), j, by), f"{i} {j} {by}",
                              (i - len(floor), j, by), (i, j - len(floor), by)):
                    self.assert_refused(NoTurn, floor_after, floor, thing)

    def test_true_and_false_are_no_numbers(self):
        floor = [[0, 1], [1, 0]]
        self.assertEqual([(1, 1, 1)], turns_of(floor))
        for thing in ((True, 1, 1), (1, True, 1), (1, 1, True), (True, True, True), (1, 1, False), (False, 1, 1)):
            self.assert_refused(NoTurn, floor_after, floor, thing)

    def test_what_is_told_is_the_askers_own(self):
        for floor in FLOORS:
            for turn in turns_of(floor)[:4]:
                self.assert_own(floor_after, floor, turn)

    def test_what_is_no_floor(self):
        for thing in samples.NO_FLOORS:
            self.assert_refused(NoFloor, turns_of, thing)
            for turn in ((1, 1, 1), (1, 1, -1), None, True, samples.nested(list)):
                self.assert_refused(NoFloor, floor_after, thing, turn)

    def test_a_refusal_changes_nothing(self):
        floor = copy.deepcopy(samples.BROKEN[6][0])
        self.assert_refused(NoTurn, floor_after, floor, (1, 1, 2))
        self.assertEqual(samples.BROKEN[6][0], floor)


class GapTest(samples.Promises, unittest.TestCase):
    def test_written_out(self):
        self.assertEqual(0, gap_of([[1]], [[1]]))
        self.assertEqual(1, gap_of([[1, 0], [0, 1]], [[0, 1], [1, 0]]))
        self.assertEqual(4, gap_of(GREATEST[3], LEAST[3]))
        self.assertEqual(286, gap_of(GREATEST[12], LEAST[12]))

    def test_both_ways_round(self):
        for one, other in PAIRS:
            gap = gap_of(one, other)
            self.assertEqual(gap_by_words(one, other), gap)
            self.assertEqual(gap, gap_of(other, one))
            self.assertIs(int, type(gap))

    def test_no_fewer_turns_lead_there(self):
        for n in (1, 2, 3, 4):
            for start in ALL[n][::1 if n < 4 else 9]:
                steps, reached = {repr(start): 0}, [start]
                for floor in reached:
                    for turn in turns_by_words(floor):
                        after = samples.stepped_table(floor, *turn)
                        if repr(after) not in steps:
                            steps[repr(after)] = steps[repr(floor)] + 1
                            reached.append(after)
                self.assertEqual(len(ALL[n]), len(steps))
                for floor in ALL[n]:
                    self.assertEqual(steps[repr(floor)], gap_of(start, floor))


class WayBetweenTest(samples.Promises, unittest.TestCase):
    def test_written_out(self):
        self.assertEqual([], way_between([[1]], [[1]]))
        self.assertEqual([(1, 1, -1)], way_between([[1, 0], [0, 1]], [[0, 1], [1, 0]]))
        self.assertEqual([(1, 1, -1), (2, 2, -1), (1, 2, -1), (2, 1, -1)], way_between(GREATEST[3], LEAST[3]))
        self.assertEqual([(1, 2, 1), (2, 1, 1), (1, 1, 1), (2, 2, 1)], way_between(LEAST[3], GREATEST[3]))

    def test_the_least_turn_that_lessens_the_gap_each_time(self):
        for one, other in PAIRS:
            way = way_between(one, other)
            self.assertEqual(gap_by_words(one, other), len(way))
            floor, target = one, samples.heights_by_words(other)
            for turn in way:
                heights = samples.heights_by_words(floor)
                self.assertEqual(turn, next((i, j, by) for i, j, by in turns_by_words(floor)
                                            if abs(heights[i][j] + by - target[i][j]) < abs(heights[i][j] - target[i][j])))
                floor = samples.stepped_table(floor, *turn)
            self.assertEqual(other, floor)
            self.assertLessEqual({type(turn) for turn in way}, {tuple})

    def test_turns_up_and_down_on_one_way(self):
        mixed = [way_between(one, other) for one, other in PAIRS]
        self.assertTrue(any({by for i, j, by in way} == {1, -1} for way in mixed))

    def test_what_is_told_is_the_askers_own(self):
        for one, other in SOME_PAIRS:
            self.assert_own(way_between, one, other)
            self.assert_own(gap_of, one, other)
            self.assert_own(judge_way, one, other, way_between(one, other))
        floor = samples.BROKEN[5][0]
        self.assertEqual([], way_between(floor, floor))


class JudgeWayTest(samples.Promises, unittest.TestCase):
    def test_short_ways(self):
        unlike = 0
        for one, other in SOME_PAIRS:
            way, another = way_between(one, other), other_short_way(one, other)
            self.assertIs(True, judge_way(one, other, way))
            self.assertIs(True, judge_way(one, other, another))
            self.assertIs(True, judge_way(other, one, [(i, j, -by) for i, j, by in way[::-1]]))
            unlike += way != another
        self.assertGreater(unlike, 10)

    def test_all_orders_of_a_way(self):
        for one, other in ((GREATEST[3], LEAST[3]), (LEAST[3], GREATEST[3]), (ALL[3][2], ALL[3][5])):
            for way in itertools.permutations(way_between(one, other)):
                floor, fits = one, True
                for turn in way:
                    fits = fits and turn in turns_by_words(floor)
                    floor = samples.stepped_table(floor, *turn)
                self.assertIs(fits, judge_way(one, other, list(way)))

    def test_longer_and_shorter_ones(self):
        for one, other in SOME_PAIRS:
            way = way_between(one, other)
            for i, j, by in turns_by_words(other)[:3]:
                self.assertIs(False, judge_way(one, other, way + [(i, j, by), (i, j, -by)]))
                self.assertIs(False, judge_way(one, other, way + [(i, j, by)]))
            for i, j, by in turns_by_words(one)[:3]:
                self.assertIs(False, judge_way(one, other, [(i, j, by), (i, j, -by)] + way))
            if way:
                self.assertIs(False, judge_way(one, other, way[:-1]))
                self.assertIs(False, judge_way(one, other, way[1:]))
                self.assertIs(False, judge_way(one, other, []))

    def test_as_many_turns_that_lead_elsewhere(self):
        for one, other in PAIRS:
            way = way_between(one, other)
            if way:
                ahead = one
                for turn in way[:-1]:
                    ahead = samples.stepped_table(ahead, *turn)
                for turn in turns_by_words(ahead):
                    self.assertIs(turn == way[-1], judge_way(one, other, way[:-1] + [turn]))

    def test_turns_that_cannot_be_done_at_their_place(self):
        for one, other in SOME_PAIRS:
            way = way_between(one, other)
            for at in sorted({0, len(way) // 2, len(way) - 1}) if way else []:
                i, j, by = way[at]
                for thing in ((i, j, -by), (i, j, 0), (0, j, by), (i, len(one), by), (i, j, 2 * by), [i, j, by],
                              (i, j), (i, j, by, by), (i, j, str(by)), (i, j, None), None, True, "turn", 1, (), [],
                              samples.nested(list), samples.nested(tuple), (i, j, samples.nested(list)),
                              (samples.nested(tuple), j, by), (i, j, 10 ** 29), (i - len(one), j, by)):
                    self.assertIs(False, judge_way(one, other, way[:at] + [thing] + way[at + 1:]))

    def test_true_and_false_are_no_numbers(self):
        one, other = [[0, 1], [1, 0]], [[1, 0], [0, 1]]
        self.assertIs(True, judge_way(one, other, [(1, 1, 1)]))
        for turn in ((True, 1, 1), (1, True, 1), (1, 1, True), (True, True, True)):
            self.assertIs(False, judge_way(one, other, [turn]))

    def test_other_kinds(self):
        floor = samples.BROKEN[4][0]
        for thing in samples.ANYTHING:
            empty = type(thing) is list and len(thing) == 0
            self.assertIs(empty, judge_way(floor, floor, thing))
            self.assertIs(empty, judge_way([[1]], [[1]], thing))
            self.assertIs(False, judge_way([[1, 0], [0, 1]], [[0, 1], [1, 0]], thing))
            self.assertIs(False, judge_way([[1, 0], [0, 1]], [[0, 1], [1, 0]], [thing]))
        for one, other in SOME_PAIRS:
            way = way_between(one, other)
            for thing in (tuple(way), [way], repr(way), [list(turn) for turn in way], {turn: True for turn in way}):
                self.assertIs(thing == [], judge_way(one, other, thing))

    def test_nothing_is_changed(self):
        for one, other in SOME_PAIRS:
            for way in (way_between(one, other), [(1, 1, 1)], [None], [[1, 1, 1]]):
                before = copy.deepcopy((one, other, way))
                judge_way(one, other, way)
                self.assertEqual(before, (one, other, way))


class RefusalsOfTwoFloorsTest(samples.Promises, unittest.TestCase):
    def test_what_is_no_floor(self):
        for thing in samples.NO_FLOORS:
            for floor in ([[1]], samples.BROKEN[5][0], samples.BROKEN[12][0]):
                for function in BY_TWO_FLOORS:
                    self.assert_refused(NoFloor, function, thing, floor)
                    self.assert_refused(NoFloor, function, floor, thing)
                    self.assert_refused(NoFloor, function, thing, thing)
                for way in ([], None, [(1, 1, 1)], samples.nested(list)):
                    self.assert_refused(NoFloor, judge_way, thing, floor, way)
                    self.assert_refused(NoFloor, judge_way, floor, thing, way)

    def test_unlike_sizes(self):
        for n, m in itertools.permutations(samples.SIZES, 2):
            one, other = samples.BROKEN[n][0], samples.BROKEN[m][1]
            for function in BY_TWO_FLOORS:
                self.assert_refused(OtherSize, function, one, other)
            for way in ([], None, [(1, 1, 1)], True, samples.nested(tuple)):
                self.assert_refused(OtherSize, judge_way, one, other, way)


if __name__ == "__main__":
    unittest.main()
