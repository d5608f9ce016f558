import copy
import unittest

from bowfloor.counts import floors_with, judge_counts, pattern_counts, pressed_counts
from bowfloor.errors import NoPattern, TooMany
from bowfloor.patterns import all_patterns, pattern_mirrored, pattern_turned
from bowfloor.ways import bows_of
from tests import samples

FLOOR_COUNTS = (1, 1, 2, 7, 42, 429, 7436)
FLOORS = {n: samples.floors_by_rows(n) for n in range(1, 7)}
BOWS = {n: [bows_of(floor, "dark") for floor in floors] for n, floors in FLOORS.items()}
COUNTS = {n: [BOWS[n].count(pattern) for pattern in samples.patterns_by_words(n)] for n in FLOORS}
BY_N = (pattern_counts, pressed_counts)
NO_PATTERNS = samples.ANYTHING + [[2, 3, 0, 1], [0, 1], [True, 0], [1, False], (1, 0), "()", [1, 0, 2], [[1, 0]],
                                  [1, samples.nested(list)], [-1, 0], [1, 2], list(range(26))[::-1], [None, 0]]


def pressed_by_words(pattern, end):
    """Point 12, word by word."""
    after = 0 if end == len(pattern) - 1 else end + 1
    if pattern[end] == after:
        return list(pattern)
    one, other = pattern[end], pattern[after]
    pressed = list(pattern)
    pressed[end], pressed[after], pressed[one], pressed[other] = after, end, other, one
    return pressed


def is_in_balance(n, counts):
    """Point 20's sums, word by word."""
    patterns = samples.patterns_by_words(n)
    sums = [0] * len(patterns)
    for pattern, count in zip(patterns, counts):
        for end in range(2 * n):
            sums[patterns.index(pressed_by_words(pattern, end))] += count
    return sums == [2 * n * count for count in counts]


class SamplesTest(unittest.TestCase):
    def test_the_floors_are_all_there(self):
        for n, floors in FLOORS.items():
            self.assertEqual(FLOOR_COUNTS[n], len(floors))
            self.assertEqual(sorted(floors), floors)
            self.assertTrue(all(samples.floor_by_words(floor) for floor in floors))
            self.assertTrue(all(ahead < after for ahead, after in zip(floors, floors[1:])))


class PatternCountsTest(samples.Promises, unittest.TestCase):
    def test_written_out(self):
        self.assertEqual([1], pattern_counts(1))
        self.assertEqual([1, 1], pattern_counts(2))
        self.assertEqual([2, 1, 1, 2, 1], pattern_counts(3))
        self.assertEqual([7, 3, 3, 3, 1, 3, 1, 3, 1, 7, 3, 3, 3, 1], pattern_counts(4))

    def test_all_floors_and_their_dark_bows(self):
        for n in range(1, 6):
            told = pattern_counts(n)
            self.assertEqual(COUNTS[n], told)
            self.assertEqual({int}, {type(count) for count in told})
            self.assertEqual(FLOOR_COUNTS[n], sum(told))
            self.assertEqual(len(all_patterns(n)), len(told))

    def test_patterns_turned_or_mirrored_have_like_counts(self):
        for n in range(1, 6):
            patterns, told = all_patterns(n), pattern_counts(n)
            for pattern, count in zip(patterns, told):
                self.assertEqual(count, told[patterns.index(pattern_mirrored(pattern))])
                for by in range(2 * n):
                    self.assertEqual(count, told[patterns.index(pattern_turned(pattern, by))])

    def test_light_bows_have_like_counts(self):
        for n in range(1, 6):
            light = [bows_of(floor, "light") for floor in FLOORS[n]]
            self.assertEqual([light.count(pattern) for pattern in all_patterns(n)], pattern_counts(n))

    def test_bows_within_one_another_and_bows_side_by_side(self):
        for n in range(1, 6):
            patterns, told = all_patterns(n), pattern_counts(n)
            self.assertEqual(1, told[patterns.index(list(range(2 * n))[::-1])])
            if n > 1:
                self.assertEqual(FLOOR_COUNTS[n - 1], told[patterns.index([end ^ 1 for end in range(2 * n)])])

    def test_refusals(self):
        for thing in samples.no_numbers_between(1, 5) + [6, 12, [1, 0], [[1]]]:
            for function in BY_N:
                self.assert_refused(TooMany, function, thing)


class FloorsWithTest(samples.Promises, unittest.TestCase):
    def test_written_out(self):
        self.assertEqual([[[1]]], floors_with([1, 0]))
        self.assertEqual([[[1, 0], [0, 1]]], floors_with([1, 0, 3, 2]))
        self.assertEqual([[[0, 1], [1, 0]]], floors_with([3, 2, 1, 0]))
        self.assertEqual([[[0, 1, 0], [1, -1, 1], [0, 1, 0]]], [
            floor for pattern in all_patterns(3) for floor in floors_with(pattern) if samples.count_minus_ones(floor)])

    def test_just_the_floors_with_these_bows(self):
        for n in range(1, 6):
            for pattern in all_patterns(n)[::1 if n < 5 else 5]:
                told = floors_with(pattern)
                expected = [floor for floor, bows in zip(FLOORS[n], BOWS[n]) if bows == pattern]
                self.assertEqual(expected, told)
                self.assertTrue(all(ahead < after for ahead, after in zip(told, told[1:])))

    def test_each_floor_with_lists_of_its_own(self):
        for pattern in [pattern for n in (1, 2, 3, 4) for pattern in all_patterns(n)] + all_patterns(5)[::20]:
            self.assert_own(floors_with, pattern)
        told = floors_with([1, 0, 3, 2, 5, 4, 7, 6])
        told[0][0][0] = 7
        self.assertEqual(1, sum(7 in row for floor in told for row in floor))

    def test_what_is_no_pattern(self):
        for thing in NO_PATTERNS:
            self.assert_refused(NoPattern, floors_with, thing)

    def test_greater_patterns(self):
        for n in range(6, 13):
            for pattern in (list(range(2 * n))[::-1], [end ^ 1 for end in range(2 * n)]):
                self.assert_refused(TooMany, floors_with, pattern)
            for bent in (list(range(2 * n)), tuple(range(2 * n))[::-1], [True] + list(range(2 * n))[::-1][1:]):
                self.assert_refused(NoPattern, floors_with, bent)

    def test_a_refusal_changes_nothing(self):
        for thing in ([1, False], list(range(12))[::-1], [2, 3, 0, 1]):
            before = copy.deepcopy(thing)
            self.assert_refused(NoPattern if len(thing) < 12 else TooMany, floors_with, thing)
            self.assertEqual(repr(before), repr(thing))


class PressedCountsTest(samples.Promises, unittest.TestCase):
    def test_equal_to_pattern_counts(self):
        for n in range(1, 6):
            self.assertEqual(COUNTS[n], pressed_counts(n))
            self.assertEqual(pattern_counts(n), pressed_counts(n))
            self.assertEqual({int}, {type(count) for count in pressed_counts(n)})

    def test_in_balance(self):
        for n in range(1, 6):
            told = pressed_counts(n)
            self.assertTrue(is_in_balance(n, told))
            self.assertEqual(1, min(told))

    def test_what_is_told_is_the_askers_own(self):
        for n in range(1, 6):
            for function in BY_N:
                self.assert_own(function, n)


def spoiled_counts(counts):
    """Lists beside the right one, each wrong for every size but for those that are left out."""
    yield [2 * count for count in counts]
    yield [3 * count for count in counts]
    yield [10 ** 25 * count for count in counts]
    yield [-count for count in counts]
    yield [0] * len(counts)
    yield counts + [1]
    yield counts + [0]
    yield [1] + counts
    yield counts[:-1]
    yield counts[1:]
    yield counts + counts
    yield []
    yield tuple(counts)
    yield [counts]
    yield (counts,)
    yield repr(counts)
    yield "".join(str(count) for count in counts)
    yield [str(count) for count in counts]
    yield [True if count == 1 else count for count in counts]
    yield {count: True for count in counts}
    yield from (None, True, False, 1, counts[0], "", "1", ())
    for at, count in enumerate(counts):
        for other in (count + 1, count - 1, -count, 0, 2 * count, None, str(count), (count,), [count], True, False,
                      10 ** 29, -10 ** 29):
            if not samples.is_same_number(other, count):
                yield counts[:at] + [other] + counts[at + 1:]
        yield counts[:at] + [samples.nested(list)] + counts[at + 1:]
        yield counts[:at] + [samples.nested(tuple)] + counts[at + 1:]
        for beside in range(at):
            if counts[beside] != count and (at + beside) % 7 == 1:
                bent = list(counts)
                bent[at], bent[beside] = bent[beside], bent[at]
                yield bent


class JudgeCountsTest(samples.Promises, unittest.TestCase):
    def test_the_right_list(self):
        for n in range(1, 7):
            self.assertTrue(is_in_balance(n, COUNTS[n]))
            self.assertEqual(FLOOR_COUNTS[n], sum(COUNTS[n]))
            self.assertIs(True, judge_counts(n, COUNTS[n]))

    def test_lists_spoiled(self):
        for n in range(1, 7):
            right = COUNTS[n]
            for at, bent in enumerate(spoiled_counts(right)):
                if n < 6 or at < 40 or at % 7 == 0:
                    self.assertIs(False, judge_counts(n, bent))

    def test_two_exchanged(self):
        for n in (3, 4, 5, 6):
            seen = 0
            for at in range(len(COUNTS[n]) - 1):
                bent = list(COUNTS[n])
                bent[at], bent[at + 1] = bent[at + 1], bent[at]
                self.assertIs(bent == COUNTS[n], judge_counts(n, bent))
                seen += bent != COUNTS[n]
            self.assertGreater(seen, 1)

    def test_counts_of_another_size(self):
        for n in range(1, 7):
            for other in range(1, 7):
                self.assertIs(n == other, judge_counts(n, COUNTS[other]))

    def test_other_kinds(self):
        for thing in samples.ANYTHING:
            for n in range(1, 7):
                self.assertIs(n == 1 and type(thing) is list and thing == [1] and thing[0] is not True,
                              judge_counts(n, thing))
                self.assertIs(n == 1 and samples.is_same_number(thing, 1), judge_counts(n, [thing]))

    def test_numbers_in_balance_with_a_common_divisor(self):
        for n in range(1, 7):
            for factor in (2, 3, 5, 7, -1, 0, 10 ** 20):
                scaled = [factor * count for count in COUNTS[n]]
                self.assertTrue(is_in_balance(n, scaled))
                self.assertIs(False, judge_counts(n, scaled))

    def test_nothing_is_changed(self):
        for n in range(1, 7):
            for counts in (COUNTS[n], COUNTS[n][::-1], [None], [[1]], []):
                before = copy.deepcopy(counts)
                self.assertIs(judge_counts(n, counts), judge_counts(n, counts))
                self.assertEqual(repr(before), repr(counts))

    def test_refusals(self):
        for thing in samples.no_numbers_between(1, 6) + [7, 8, 12, [1, 0], [[1]]]:
            for counts in ([1], [], None, True, COUNTS[6], samples.nested(list), samples.nested(tuple)):
                self.assert_refused(TooMany, judge_counts, thing, counts)


if __name__ == "__main__":
    unittest.main()
