import copy
import itertools
import unittest

from bowfloor.errors import NoEnd, NoNumber, NoPattern, TooMany
from bowfloor.patterns import (all_patterns, bows_over, is_pattern, pattern_mirrored, pattern_pressed, pattern_turned,
                               short_bows)
from tests import samples

BY_PATTERN = (pattern_mirrored, short_bows, bows_over)
TURNS = (0, 1, -1, 2, 5, 23, 24, 25, -24, -25, 1000, 10 ** 29, -10 ** 29, 10 ** 30 - 1, 1 - 10 ** 30,
         123456789012345678901234567890, -123456789012345678901234567890)


def some_pattern(n, seed):
    """A pattern of size n whose signs are drawn one by one."""
    signs, state = "", seed * 7919 + n
    for end in range(2 * n):
        state = (state * 1103515245 + 12345) % (1 << 31)
        depth = signs.count("(") - signs.count(")")
        left = 2 * n - end
        signs += "(" if depth == 0 or depth < left and (state >> 16) % 2 else ")"
    return samples.pattern_by_signs(signs)


SOME = {n: [some_pattern(n, seed) for seed in range(12)] for n in samples.SIZES}
FEW = [pattern for patterns in SOME.values() for pattern in patterns[:3]]
RAINBOWS = [list(range(2 * n))[::-1] for n in samples.SIZES]
ROWS_OF_SHORT = [[end ^ 1 for end in range(2 * n)] for n in samples.SIZES]
GOOD = FEW + RAINBOWS + ROWS_OF_SHORT + [pattern for n in (1, 2, 3, 4) for pattern in samples.patterns_by_words(n)]
THIRTEEN = [list(range(26))[::-1], [end ^ 1 for end in range(26)]]


class IsPatternTest(unittest.TestCase):
    def test_good_ones(self):
        for pattern in GOOD + [pattern for patterns in SOME.values() for pattern in patterns]:
            self.assertTrue(samples.pattern_by_words(pattern))
            self.assertIs(True, is_pattern(pattern), pattern)

    def test_all_small_lists(self):
        for n in (1, 2, 3):
            for thing in itertools.product(range(2 * n), repeat=2 * n):
                self.assertIs(samples.pattern_by_words(thing), is_pattern(list(thing)))
        for n in (1, 2):
            for thing in itertools.product(range(-1, 2 * n + 1), repeat=2 * n):
                self.assertIs(samples.pattern_by_words(thing), is_pattern(list(thing)))

    def test_one_number_exchanged(self):
        for pattern in FEW + RAINBOWS:
            for end, partner in enumerate(pattern):
                others = [end, partner + 1, partner - 1, partner - len(pattern), partner + len(pattern), -1,
                          len(pattern), 24, 26, None, True, False, str(partner), (partner,), [partner], "", (), [],
                          10 ** 29, -10 ** 29, samples.nested(list), samples.nested(tuple)]
                for other in others:
                    bent = pattern[:end] + [other] + pattern[end + 1:]
                    self.assertIs(False, is_pattern(bent))

    def test_crossing_bows(self):
        seen = 0
        for pattern in FEW:
            for a, b in itertools.combinations(range(len(pattern)), 2):
                if pattern[a] > a and pattern[b] > b:
                    c, d = pattern[a], pattern[b]
                    for one, other, third, fourth in ((a, d, b, c), (a, b, c, d)):
                        bent = list(pattern)
                        bent[one], bent[other], bent[third], bent[fourth] = other, one, fourth, third
                        self.assertIs(samples.pattern_by_words(bent), is_pattern(bent), bent)
                        seen += not samples.pattern_by_words(bent)
        self.assertGreater(seen, 20)
        for bent in ([2, 3, 0, 1], [3, 4, 5, 0, 1, 2], [1, 0, 4, 5, 2, 3], [4, 2, 1, 5, 0, 3], [2, 4, 0, 5, 1, 3]):
            self.assertIs(False, is_pattern(bent), bent)

    def test_ends_that_are_their_own_partners(self):
        for bent in ([0, 1], [0, 2, 1, 3], [3, 1, 2, 0], [1, 0, 2, 3], [0], [1, 0, 2], list(range(24))):
            self.assertIs(False, is_pattern(bent), bent)

    def test_partners_that_are_not_shared(self):
        for bent in ([1, 2, 3, 0], [1, 1], [0, 0], [3, 0, 1, 2], [1, 0, 1, 0], [3, 2, 1, 1], [1, 2, 0, 3]):
            self.assertIs(False, is_pattern(bent), bent)

    def test_true_and_false_are_no_numbers(self):
        for bent in ([True, False], [True, 0], [1, False], [3, 2, True, 0], [3, 2, 1, False], [True, 0, 3, 2]):
            self.assertIs(False, is_pattern(bent), bent)

    def test_lengths(self):
        for bent in ([], [1, 0, 2], [1, 0, 3], [1], [2, 1, 0], [1, 0, 3, 2, 4], [1, 0, 0], *THIRTEEN,
                     [end ^ 1 for end in range(300)], list(range(300))[::-1]):
            self.assertIs(False, is_pattern(bent), bent)
        for pattern in FEW:
            for bent in (pattern[:-1], pattern[1:], pattern + [0], pattern + [len(pattern)], pattern + pattern,
                         pattern + [None], [pattern], [pattern, pattern]):
                self.assertIs(False, is_pattern(bent), bent)

    def test_other_kinds(self):
        for thing in samples.ANYTHING + samples.GOOD_FLOORS:
            self.assertIs(False, is_pattern(thing))
            self.assertIs(type(thing) is int and thing == 1, is_pattern([thing, 0]))
            self.assertIs(False, is_pattern([thing, thing]))
        for pattern in FEW:
            self.assertIs(False, is_pattern(tuple(pattern)))
            self.assertIs(False, is_pattern("".join(str(partner) for partner in pattern)))
            self.assertIs(False, is_pattern([str(partner) for partner in pattern]))
        self.assertIs(False, is_pattern("()"))
        self.assertIs(False, is_pattern("10"))

    def test_nothing_is_changed(self):
        for thing in [[1, 0], [True, 0], [2, 3, 0, 1], [], [1, 0, 3, 2, 9]] + FEW:
            before = copy.deepcopy(thing)
            self.assertIs(is_pattern(thing), is_pattern(thing))
            self.assertEqual(repr(before), repr(thing))


class AllPatternsTest(samples.Promises, unittest.TestCase):
    def test_counts(self):
        self.assertEqual([1, 2, 5, 14, 42, 132], [len(all_patterns(n)) for n in range(1, 7)])

    def test_written_out(self):
        self.assertEqual([[1, 0]], all_patterns(1))
        self.assertEqual([[1, 0, 3, 2], [3, 2, 1, 0]], all_patterns(2))
        self.assertEqual([[1, 0, 3, 2, 5, 4], [1, 0, 5, 4, 3, 2], [3, 2, 1, 0, 5, 4], [5, 2, 1, 4, 3, 0],
                          [5, 4, 3, 2, 1, 0]], all_patterns(3))

    def test_all_of_them_in_rising_order(self):
        for n in range(1, 7):
            patterns = all_patterns(n)
            self.assertEqual(samples.patterns_by_words(n), patterns)
            self.assertTrue(all(ahead < after for ahead, after in zip(patterns, patterns[1:])))
            self.assertTrue(all(is_pattern(pattern) for pattern in patterns))

    def test_what_is_told_is_the_askers_own(self):
        for n in range(1, 7):
            self.assert_own(all_patterns, n)

    def test_refusals(self):
        for thing in samples.no_numbers_between(1, 6) + [7, 12, [1, 0]]:
            self.assert_refused(TooMany, all_patterns, thing)


class TurnedTest(samples.Promises, unittest.TestCase):
    def test_written_out(self):
        self.assertEqual([1, 0, 5, 4, 3, 2], pattern_turned([5, 4, 3, 2, 1, 0], 1))
        self.assertEqual([3, 2, 1, 0, 5, 4], pattern_turned([5, 4, 3, 2, 1, 0], -1))
        self.assertEqual([5, 2, 1, 4, 3, 0], pattern_turned([1, 0, 3, 2, 5, 4], 10 ** 29 + 1))
        self.assertEqual([1, 0], pattern_turned([1, 0], -7))

    def test_each_end_stands_for_another(self):
        for pattern in GOOD:
            many = len(pattern)
            for by in TURNS + (many, -many, many - 1, many + 1, many // 2):
                told = pattern_turned(pattern, by)
                self.assertEqual(many, len(told))
                for end, partner in enumerate(pattern):
                    self.assertEqual((partner + by) % many, told[(end + by) % many])
                self.assertIs(True, is_pattern(told))

    def test_there_and_back(self):
        for pattern in GOOD:
            for by in TURNS:
                self.assertEqual(pattern, pattern_turned(pattern_turned(pattern, by), -by))

    def test_what_is_told_is_the_askers_own(self):
        for pattern in FEW:
            for by in (0, 1, -3, len(pattern), 10 ** 29):
                self.assert_own(pattern_turned, pattern, by)

    def test_what_is_no_number(self):
        no_numbers = [thing for thing in samples.ANYTHING if type(thing) is not int]
        for thing in no_numbers:
            for pattern in FEW[:6] + FEW[-2:]:
                self.assert_refused(NoNumber, pattern_turned, pattern, thing)


class MirroredTest(samples.Promises, unittest.TestCase):
    def test_each_end_stands_for_another(self):
        self.assertEqual([1, 0, 5, 4, 3, 2], pattern_mirrored([3, 2, 1, 0, 5, 4]))
        for pattern in GOOD:
            last = len(pattern) - 1
            told = pattern_mirrored(pattern)
            for end, partner in enumerate(pattern):
                self.assertEqual(last - partner, told[last - end])
            self.assertIs(True, is_pattern(told))
            self.assertEqual(pattern, pattern_mirrored(told))


class ShortBowsTest(unittest.TestCase):
    def test_written_out(self):
        self.assertEqual([0, 1], short_bows([1, 0]))
        self.assertEqual([0, 2], short_bows([1, 0, 3, 2]))
        self.assertEqual([1, 3], short_bows([3, 2, 1, 0]))
        self.assertEqual([2, 5], short_bows([5, 4, 3, 2, 1, 0]))
        self.assertEqual([1, 3, 5], short_bows([5, 2, 1, 4, 3, 0]))

    def test_just_those_whose_partner_is_next(self):
        for pattern in GOOD:
            expected = [end for end in range(len(pattern) - 1) if pattern[end] == end + 1]
            expected += [len(pattern) - 1] if pattern[-1] == 0 else []
            self.assertEqual(expected, short_bows(pattern))


class BowsOverTest(unittest.TestCase):
    def test_written_out(self):
        self.assertEqual([(0, 1, 0)], bows_over([1, 0]))
        self.assertEqual([(0, 5, 0), (1, 4, 1), (2, 3, 2)], bows_over([5, 4, 3, 2, 1, 0]))
        self.assertEqual([(0, 5, 0), (1, 2, 1), (3, 4, 1)], bows_over([5, 2, 1, 4, 3, 0]))
        self.assertEqual([(0, 1, 0), (2, 3, 0)], bows_over([1, 0, 3, 2]))

    def test_each_bow_with_those_over_it(self):
        for pattern in GOOD:
            told = bows_over(pattern)
            self.assertEqual(sorted(told), told)
            self.assertEqual({(a, b) for a, b in enumerate(pattern) if a < b}, {(a, b) for a, b, over in told})
            self.assertEqual(len(pattern) // 2, len(told))
            for a, b, over in told:
                self.assertEqual(sum(pattern[end] > b for end in range(a)), over)
            self.assertEqual({tuple}, {type(bow) for bow in told})


class PressedTest(samples.Promises, unittest.TestCase):
    def test_written_out(self):
        rainbow = [5, 4, 3, 2, 1, 0]
        self.assertEqual([1, 0, 3, 2, 5, 4], pattern_pressed([1, 0, 5, 4, 3, 2], 2))
        self.assertEqual([1, 0, 3, 2, 5, 4], pattern_pressed(rainbow, 0))
        self.assertEqual([1, 0, 3, 2, 5, 4], pattern_pressed(rainbow, 4))
        self.assertEqual([5, 2, 1, 4, 3, 0], pattern_pressed(rainbow, 1))
        self.assertEqual(rainbow, pattern_pressed(rainbow, 2))
        self.assertEqual(rainbow, pattern_pressed(rainbow, 5))
        self.assertEqual([3, 2, 1, 0], pattern_pressed([1, 0, 3, 2], 3))
        self.assertEqual([1, 0], pattern_pressed([1, 0], 0))
        self.assertEqual([1, 0], pattern_pressed([1, 0], 1))

    def test_at_each_end(self):
        for pattern in GOOD:
            many = len(pattern)
            for end in range(many):
                after = end + 1 if end + 1 < many else 0
                told = pattern_pressed(pattern, end)
                if pattern[end] == after:
                    self.assertEqual(pattern, told)
                    continue
                self.assertEqual((after, end), (told[end], told[after]))
                self.assertEqual((pattern[after], pattern[end]), (told[pattern[end]], told[pattern[after]]))
                touched = {end, after, pattern[end], pattern[after]}
                for other in set(range(many)) - touched:
                    self.assertEqual(pattern[other], told[other])
                self.assertIs(True, is_pattern(told))

    def test_a_new_list_each_time(self):
        for pattern in FEW + RAINBOWS + ROWS_OF_SHORT:
            for end in range(len(pattern)):
                self.assert_own(pattern_pressed, pattern, end)
        for pattern in RAINBOWS:
            for end in (len(pattern) // 2 - 1, len(pattern) - 1):
                told = pattern_pressed(pattern, end)
                self.assertEqual(pattern, told)
                self.assertIsNot(pattern, told)

    def test_what_is_no_end(self):
        for pattern in FEW[::3] + RAINBOWS:
            for thing in samples.no_numbers_between(0, len(pattern) - 1):
                self.assert_refused(NoEnd, pattern_pressed, pattern, thing)


class PromisesTest(samples.Promises, unittest.TestCase):
    def test_what_is_told_is_the_askers_own(self):
        for function in BY_PATTERN:
            for pattern in GOOD:
                self.assert_own(function, pattern)

    def test_what_is_no_pattern(self):
        wrong = samples.ANYTHING + THIRTEEN + [[2, 3, 0, 1], [0, 1], [True, 0], [1, False], (1, 0), "()", [1, 0, 2],
                                               [[1, 0]], [1, samples.nested(list)], [-1, 0], [1, 2], [[1]]]
        for thing in wrong:
            for function in BY_PATTERN:
                self.assert_refused(NoPattern, function, thing)
            for by in (0, 1, None, True, "1", samples.nested(tuple)):
                self.assert_refused(NoPattern, pattern_turned, thing, by)
                self.assert_refused(NoPattern, pattern_pressed, thing, by)

    def test_a_refusal_changes_nothing(self):
        for pattern in FEW:
            before = list(pattern)
            self.assert_refused(NoEnd, pattern_pressed, pattern, len(pattern))
            self.assert_refused(NoNumber, pattern_turned, pattern, True)
            self.assertEqual(before, pattern)


if __name__ == "__main__":
    unittest.main()
