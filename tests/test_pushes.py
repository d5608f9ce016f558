import copy
import itertools
import random
import unittest

from bowfloor.errors import NoFloor, NoPushes, TooMany
from bowfloor.floors import is_floor
from bowfloor.pushes import ends_met, pushed_floor
from tests import samples

ALL = {n: samples.floors_by_words(n) for n in (1, 2, 3, 4)}
LEAST = {n: samples.unit_floor(list(range(n))[::-1]) for n in samples.SIZES}
GREATEST = {n: samples.unit_floor(list(range(n))) for n in samples.SIZES}
FLOORS = [floor for floors in ALL.values() for floor in floors] + samples.HOOPED
FLOORS += [floor for n in samples.SIZES for floor in samples.BROKEN[n] + [LEAST[n], GREATEST[n]]]
EVERY_PUSH = list(itertools.product(range(1, 13), range(1, 13), (1, -1)))


def pushed_by_words(floor, pushes):
    """Point 22, word by word, by single heights."""
    n = len(floor)
    heights = samples.heights_by_words(floor)
    for i, j, by in pushes:
        if i < n and j < n:
            tried = copy.deepcopy(heights)
            tried[i][j] += by
            if samples.heights_by_rules(tried):
                heights = tried
    return [[heights[i + 1][j + 1] - heights[i + 1][j] - heights[i][j + 1] + heights[i][j] for j in range(n)]
            for i in range(n)]


def met_by_words(n, pushes):
    counts = range(len(pushes) + 1)
    return next((count for count in counts if pushed_by_words(LEAST[n], pushes[:count])
                 == pushed_by_words(GREATEST[n], pushes[:count])), None)


def drawn_pushes(n, many, draw):
    """So many pushes, most of them at places of a floor of size n."""
    greatest = min(12, n + draw.choice((-1, 0, 1)))
    return [(draw.randint(1, max(1, greatest)), draw.randint(1, max(1, greatest)), draw.choice((1, -1)))
            for step in range(many)]


def fall_of_all(n):
    """Pushes by which every floor of size n comes to be the least one."""
    sweep = [(i, j, -1) for i in range(1, n) for j in range(1, n)]
    return sweep * n


class PushedFloorTest(samples.Promises, unittest.TestCase):
    def test_written_out(self):
        plain = [[1, 0, 0], [0, 1, 0], [0, 0, 1]]
        self.assertEqual(plain, pushed_floor(plain, []))
        self.assertEqual([[0, 1, 0], [1, 0, 0], [0, 0, 1]], pushed_floor(plain, [(1, 1, -1)]))
        self.assertEqual(plain, pushed_floor(plain, [(1, 1, 1)]))
        self.assertEqual(plain, pushed_floor(plain, [(1, 1, -1), (1, 1, 1)]))
        self.assertEqual([[0, 1, 0], [1, 0, 0], [0, 0, 1]], pushed_floor(plain, [(1, 1, -1), (1, 1, -1), (3, 3, 1)]))
        self.assertEqual([[0, 0, 1], [0, 1, 0], [1, 0, 0]],
                         pushed_floor(plain, [(1, 2, -1), (1, 1, -1), (2, 2, -1), (1, 2, -1), (2, 1, -1)]))

    def test_each_push_alone(self):
        for floor in FLOORS:
            n = len(floor)
            for push in EVERY_PUSH:
                i, j, by = push
                stepped = samples.stepped_table(floor, i, j, by) if i < n and j < n else floor
                expected = stepped if samples.floor_by_words(stepped) else floor
                self.assertEqual(expected, pushed_floor(floor, [push]))

    def test_beyond_the_size(self):
        for n in samples.SIZES:
            beyond = [(i, j, by) for i, j, by in EVERY_PUSH if i >= n or j >= n]
            for floor in samples.BROKEN[n]:
                self.assertEqual(floor, pushed_floor(floor, beyond[:300]))

    def test_one_after_the_other(self):
        draw = random.Random(22)
        changed = 0
        for floor in FLOORS:
            for many in (2, 3, 10, 40):
                pushes = drawn_pushes(len(floor), many, draw)
                told = pushed_floor(floor, pushes)
                self.assertEqual(pushed_by_words(floor, pushes), told)
                self.assertIs(True, is_floor(told))
                changed += told != floor
        self.assertGreater(changed, 100)

    def test_three_hundred(self):
        draw = random.Random(300)
        for n in (1, 2, 5, 12):
            pushes = drawn_pushes(n, 300, draw)
            self.assertEqual(pushed_by_words(samples.BROKEN[n][0], pushes), pushed_floor(samples.BROKEN[n][0], pushes))
        self.assertEqual(LEAST[5], pushed_floor(samples.BROKEN[5][0], fall_of_all(5)))

    def test_no_pushes(self):
        for floor in FLOORS:
            self.assertEqual(floor, pushed_floor(floor, []))

    def test_what_is_told_is_the_askers_own(self):
        draw = random.Random(2)
        for floor in FLOORS[::4] + FLOORS[-30:]:
            for pushes in ([], drawn_pushes(len(floor), 5, draw), [(12, 12, 1)]):
                self.assert_own(pushed_floor, floor, pushes)
        samples.spoil(pushed_floor(samples.SHARED_FLOOR, []))
        self.assertEqual([[0, 1, 0], [1, -1, 1], [0, 1, 0]], samples.SHARED_FLOOR)


class EndsMetTest(samples.Promises, unittest.TestCase):
    def test_written_out(self):
        self.assertEqual(1, ends_met(2, [(1, 1, 1)]))
        self.assertEqual(1, ends_met(2, [(1, 1, -1)]))
        self.assertEqual(3, ends_met(2, [(1, 2, 1), (2, 2, 1), (1, 1, -1), (1, 1, 1)]))
        self.assertIs(None, ends_met(2, [(1, 2, 1)]))
        self.assertEqual(4, ends_met(3, [(1, 1, -1), (2, 2, -1), (1, 2, -1), (2, 1, -1)]))
        self.assertIs(None, ends_met(3, [(1, 1, -1), (2, 2, -1), (1, 2, -1)]))
        self.assertIs(None, ends_met(3, [(1, 1, -1), (2, 2, 1), (1, 2, -1), (2, 1, -1)]))

    def test_size_one_and_no_pushes(self):
        for pushes in ([], [(1, 1, 1)], [(12, 12, -1)] * 300):
            told = ends_met(1, pushes)
            self.assertEqual(0, told)
            self.assertIs(int, type(told))
        for n in range(2, 13):
            self.assertIs(None, ends_met(n, []))

    def test_by_words(self):
        draw = random.Random(7)
        met = 0
        for n in (2, 3, 4):
            for many in (1, 2, 4, 8, 16, 40, 100):
                for step in range(6):
                    pushes = drawn_pushes(n, many, draw)
                    expected = met_by_words(n, pushes)
                    self.assertEqual(expected, ends_met(n, pushes))
                    met += expected is not None
        self.assertGreater(met, 20)

    def test_greater_sizes(self):
        for n in range(2, 13):
            pushes = fall_of_all(n)
            told = ends_met(n, pushes)
            self.assertIs(int, type(told))
            self.assertGreater(told, (n - 1) ** 2 - 1)
            self.assertEqual(LEAST[n], pushed_by_words(GREATEST[n], pushes[:told]))
            self.assertNotEqual(LEAST[n], pushed_by_words(GREATEST[n], pushes[:told - 1]))
            self.assertIs(None, ends_met(n, pushes[:told - 1]))
            self.assertEqual(told, ends_met(n, pushes[:told]))
            beyond = [(n, n, 1), (1, n, -1)] * 5
            self.assertEqual(told + 10, ends_met(n, beyond + pushes))

    def test_from_then_on_all_floors_are_one(self):
        draw = random.Random(8)
        for n in (2, 3, 4):
            places = [(draw.randrange(1, n), draw.randrange(1, n)) for step in range(240)]
            pushes = [(i, j, draw.choice((1, -1))) for i, j in places] + fall_of_all(n)
            told = ends_met(n, pushes)
            for count in (told, told + 1, len(pushes)):
                self.assertEqual(1, len({repr(pushed_floor(floor, pushes[:count])) for floor in ALL[n]}))
            self.assertNotEqual(pushed_floor(LEAST[n], pushes[:told - 1]), pushed_floor(GREATEST[n], pushes[:told - 1]))

    def test_nothing_that_is_handed_in_is_changed(self):
        draw = random.Random(9)
        for n in samples.SIZES:
            self.assert_own(ends_met, n, drawn_pushes(n, 30, draw))


def no_pushes():
    good = (1, 1, -1)
    for thing in samples.ANYTHING:
        if thing != []:
            yield thing
    yield from (good, (good,), (), [[good]], ([good],), {good: 1}, "(1, 1, 1)", [(good,)], [(good, good)],
                [good, [good]])
    for part in no_parts():
        yield [part]
        yield [good, part]
        yield [part, good]
        yield [good] * 60 + [part]


def no_parts():
    yield from ((1, 1), (1, 1, 1, 1), (1, 1, 1, 0), (1,), (), [1, 1, 1], [1, 1, -1], (1, 1, 0), (1, 1, 2), (1, 1, -2),
                (0, 1, 1), (1, 0, 1), (13, 1, 1), (1, 13, 1), (-1, 1, 1), (1, -1, 1), (14, 14, -1), (10 ** 29, 1, 1),
                (1, -10 ** 29, 1), (1, 1, 10 ** 29), ((1, 1), 1), ((1, 1, 1),), "111", "1 1 1", None, True, False, 0, 1,
                "", samples.nested(list), samples.nested(tuple))
    for at in range(3):
        for other in (True, False, None, "", "1", (), (1,), [], [1], samples.nested(list), samples.nested(tuple)):
            part = [1, 1, 1]
            part[at] = other
            yield tuple(part)


class RefusalsTest(samples.Promises, unittest.TestCase):
    def test_what_are_no_pushes(self):
        for thing in no_pushes():
            for n in (1, 2, 12):
                self.assert_refused(NoPushes, ends_met, n, thing)
                self.assert_refused(NoPushes, pushed_floor, samples.BROKEN[n][0], thing)

    def test_edges_of_what_are_pushes(self):
        for push in ((1, 12, 1), (12, 1, -1), (12, 12, 1), (1, 1, -1)):
            self.assertEqual([[1]], pushed_floor([[1]], [push]))
            self.assertEqual(0, ends_met(1, [push]))

    def test_what_is_no_floor(self):
        for thing in samples.NO_FLOORS:
            for pushes in ([], [(1, 1, 1)], None, True, [None], samples.nested(list)):
                self.assert_refused(NoFloor, pushed_floor, thing, pushes)

    def test_what_is_no_size(self):
        for thing in samples.no_numbers_between(1, 12) + [[[1]]]:
            for pushes in ([], [(1, 1, 1)], None, True, [None], samples.nested(tuple)):
                self.assert_refused(TooMany, ends_met, thing, pushes)

    def test_pushes_behind_the_meeting_are_looked_at_too(self):
        for pushes in ([(1, 1, 1), None], [(1, 1, 1), (1, 1)], [(1, 1, 1), (1, 1, True)]):
            self.assert_refused(NoPushes, ends_met, 2, pushes)
            self.assert_refused(NoPushes, ends_met, 1, pushes)

    def test_a_refusal_changes_nothing(self):
        for pushes in ([(1, 1, -1), (1, 1, True)], [(1, 1, -1), [1, 1, 1]], ((1, 1, -1),)):
            floor, before = copy.deepcopy(GREATEST[4]), copy.deepcopy(pushes)
            self.assert_refused(NoPushes, pushed_floor, floor, pushes)
            self.assert_refused(NoPushes, ends_met, 4, pushes)
            self.assertEqual(repr((GREATEST[4], before)), repr((floor, pushes)))


if __name__ == "__main__":
    unittest.main()
