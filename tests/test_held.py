import copy
import itertools
import random
import unittest

from bowfloor.errors import HeldApart, NoFloor, NoHeld, TooMany
from bowfloor.floors import is_floor
from bowfloor.held import free_places, held_floors, keeps, nearest_floor
from tests import samples

ALL = {n: samples.floors_by_words(n) for n in (1, 2, 3, 4)}
HEIGHTS = {n: [samples.heights_by_words(floor) for floor in floors] for n, floors in ALL.items()}
LEAST = {n: samples.unit_floor(list(range(n))[::-1]) for n in samples.SIZES}
GREATEST = {n: samples.unit_floor(list(range(n))) for n in samples.SIZES}
FLOORS = [floor for floors in ALL.values() for floor in floors] + samples.HOOPED
FLOORS += [floor for n in samples.SIZES for floor in samples.BROKEN[n] + [LEAST[n], GREATEST[n]]]
BY_SIZE = (held_floors, free_places)
BY_FLOOR = (keeps, nearest_floor)
FAR = 10 ** 29 + 7


def places(n):
    return list(itertools.product(range(n + 1), repeat=2))


def keeps_by_words(heights, held):
    return all(low <= heights[i][j] and heights[i][j] <= high for i, j, low, high in held)


def keepers(n, held):
    """The heights of all floors of size n, 1 to 4, that keep held."""
    return [heights for heights in HEIGHTS[n] if keeps_by_words(heights, held)]


def place_by_place(choose, tables):
    """The table that has at each place what is chosen of what the tables have there."""
    return [[choose(numbers) for numbers in zip(*rows)] for rows in zip(*tables)]


def apart_by_words(n, held):
    """The two places of point 17, word by word, or None."""
    lows, highs = {}, {}
    for i, j in places(n):
        rim = [0] if 0 in (i, j) else [j] if i == n else [i] if j == n else []
        there = [(low, high) for k, m, low, high in held if (k, m) == (i, j)]
        if there or rim:
            lows[i, j] = max([low for low, high in there] + rim)
            highs[i, j] = min([high for low, high in there] + rim)
    found = []
    for (i, j), (k, m) in itertools.product(lows, repeat=2):
        fall = (i - k if i > k else 0) + (j - m if j > m else 0)
        if lows[i, j] - fall > highs[k, m]:
            found.append(((i, j), (k, m)))
    return min(found) if found else None


def least_by_steps(n, held):
    """The least heights that are nowhere below a low, found by lifting single heights until all of them fit."""
    heights = samples.heights_by_words(LEAST[n])
    for i, j, low, high in held:
        heights[i][j] = max(heights[i][j], low)
    before = None
    while before != heights:
        before = copy.deepcopy(heights)
        for i, j in places(n):
            around = [heights[i][j]]
            around += [heights[i - 1][j]] if i > 0 else []
            around += [heights[i][j - 1]] if j > 0 else []
            around += [heights[i + 1][j] - 1] if i < n else []
            around += [heights[i][j + 1] - 1] if j < n else []
            heights[i][j] = max(around)
    return heights


def greatest_by_steps(n, held):
    """The same from above: heights counted down from row to row are those of the floor with its rows mirrored."""
    turned = [(i, n - j, i - high, i - low) for i, j, low, high in held]
    return [[i - height for height in row[::-1]] for i, row in enumerate(least_by_steps(n, turned))]


def drawn_held(n, many, draw):
    """So many held places of any kind, most of them near to what heights can be."""
    held = []
    for step in range(many):
        i, j = draw.randrange(n + 1), draw.randrange(n + 1)
        low = draw.randrange(-1, min(i, j) + 2)
        held.append((i, j, low, low + draw.choice((-1, 0, 0, 1, 1, 2, 3))))
    return held


def kept_held(floor, many, draw):
    """So many held places that the floor keeps."""
    heights = samples.heights_by_words(floor)
    drawn = [draw.choice(places(len(floor))) for step in range(many)]
    return [(i, j, heights[i][j] - draw.choice((0, 0, 1, 2, FAR)), heights[i][j] + draw.choice((0, 0, 1, 3, FAR)))
            for i, j in drawn]


def all_held(floor):
    """Every place of the floor held at its own height."""
    return [(i, j, height, height) for i, row in enumerate(samples.heights_by_words(floor))
            for j, height in enumerate(row)]


def small_cases():
    draw = random.Random(16)
    for n in (1, 2, 3, 4):
        yield n, []
        for i, j in places(n):
            for low, high in itertools.product(range(-1, n + 2), repeat=2):
                yield n, [(i, j, low, high)]
        for step in range(500):
            yield n, drawn_held(n, draw.randrange(1, 6), draw)
        for floor in ALL[n]:
            yield n, kept_held(floor, draw.randrange(1, 6), draw)
            yield n, all_held(floor)


def large_cases():
    draw = random.Random(17)
    for n in range(5, 13):
        for floor in samples.BROKEN[n] + [LEAST[n], GREATEST[n]]:
            yield n, kept_held(floor, draw.randrange(1, 9), draw)
            yield n, kept_held(floor, 2, draw)
        yield n, kept_held(samples.BROKEN[n][0], 300, draw)
        yield n, all_held(samples.BROKEN[n][1])
        yield n, []
        for step in range(8):
            yield n, drawn_held(n, draw.randrange(1, 8), draw)


SMALL = list(small_cases())
LARGE = list(large_cases())
KEPT = [(n, held) for n, held in SMALL + LARGE if apart_by_words(n, held) is None]
APART = [(n, held, apart_by_words(n, held)) for n, held in SMALL + LARGE if apart_by_words(n, held) is not None]


class HeldPromises(samples.Promises):
    def assert_apart(self, fields, function, *given):
        """It refuses with HeldApart and these fields."""
        try:
            function(*given)
        except Exception as error:
            self.assertIs(HeldApart, type(error))
            self.assertEqual(fields, (error.one, error.other))
            for place in (error.one, error.other):
                self.assertIs(tuple, type(place))
                self.assertEqual([int, int], [type(number) for number in place])
        else:
            self.fail(f"{function.__name__} refused nothing")


class CasesTest(unittest.TestCase):
    def test_there_are_enough_of_both(self):
        for n in samples.SIZES:
            self.assertGreater(len([size for size, held in KEPT if size == n]), 10)
            self.assertGreater(len([size for size, held, fields in APART if size == n]), 2)
        self.assertTrue(any(one == other for n, held, (one, other) in APART))
        self.assertTrue(any(one != other and 0 < min(one + other) and max(one + other) < n
                            for n, held, (one, other) in APART))


class KeepsTest(HeldPromises, unittest.TestCase):
    def test_written_out(self):
        floor = [[0, 1, 0], [1, -1, 1], [0, 1, 0]]
        self.assertIs(True, keeps(floor, []))
        self.assertIs(True, keeps(floor, [(1, 1, 0, 0)]))
        self.assertIs(True, keeps(floor, [(1, 1, -3, 5), (2, 2, 1, 1), (1, 2, 1, 2)]))
        self.assertIs(False, keeps(floor, [(1, 1, 1, 1)]))
        self.assertIs(False, keeps(floor, [(2, 2, 0, 0)]))
        self.assertIs(False, keeps(floor, [(1, 1, 0, 0), (2, 2, 2, 2)]))

    def test_at_the_rim(self):
        for n in samples.SIZES:
            floor = samples.BROKEN[n][0]
            for k in range(n + 1):
                for i, j, height in ((0, k, 0), (k, 0, 0), (n, k, k), (k, n, k)):
                    self.assertIs(True, keeps(floor, [(i, j, height, height)]))
                    self.assertIs(False, keeps(floor, [(i, j, height + 1, height + 1)]))
                    self.assertIs(False, keeps(floor, [(i, j, height - 2, height - 1)]))

    def test_low_above_high(self):
        for floor in FLOORS:
            height = samples.heights_by_words(floor)[1][1]
            self.assertIs(False, keeps(floor, [(1, 1, height + 1, height)]))
            self.assertIs(False, keeps(floor, [(1, 1, height, height - 1)]))
            self.assertIs(False, keeps(floor, [(1, 1, FAR, -FAR)]))
            self.assertIs(False, keeps(floor, [(1, 1, height + 1, height - 1)]))

    def test_one_place_held_twice(self):
        floor = samples.BROKEN[4][0]
        height = samples.heights_by_words(floor)[2][2]
        self.assertIs(True, keeps(floor, [(2, 2, height, height + 1), (2, 2, height - 1, height)]))
        self.assertIs(True, keeps(floor, [(2, 2, height, height)] * 2))
        self.assertIs(False, keeps(floor, [(2, 2, height, height), (2, 2, height + 1, height + 1)]))
        self.assertIs(False, keeps(floor, [(2, 2, height + 1, height + 1), (2, 2, height, height)]))

    def test_numbers_of_thirty_figures(self):
        for n in samples.SIZES:
            floor = samples.BROKEN[n][0]
            for i, j in places(n):
                self.assertIs(True, keeps(floor, [(i, j, -10 ** 30 + 1, 10 ** 30 - 1)]))
                self.assertIs(False, keeps(floor, [(i, j, FAR, 2 * FAR)]))
                self.assertIs(False, keeps(floor, [(i, j, -2 * FAR, -FAR)]))

    def test_by_words(self):
        draw = random.Random(5)
        for n, held in SMALL[::3] + LARGE:
            floors = ALL[n] if n < 4 else draw.sample(ALL[4], 6) if n == 4 else samples.BROKEN[n] + [LEAST[n]]
            for floor in floors:
                self.assertIs(keeps_by_words(samples.heights_by_words(floor), held), keeps(floor, held))

    def test_held_that_no_floor_keeps_is_not_refused(self):
        for n, held, fields in APART:
            self.assertIs(False, keeps(GREATEST[n], held))


class HeldFloorsTest(HeldPromises, unittest.TestCase):
    def test_written_out(self):
        self.assertEqual(([[1]], [[1]]), held_floors(1, []))
        self.assertEqual(([[0, 1], [1, 0]], [[1, 0], [0, 1]]), held_floors(2, []))
        self.assertEqual(([[1, 0], [0, 1]], [[1, 0], [0, 1]]), held_floors(2, [(1, 1, 1, 1)]))
        self.assertEqual(([[0, 0, 1], [0, 1, 0], [1, 0, 0]], [[0, 1, 0], [1, -1, 1], [0, 1, 0]]),
                         held_floors(3, [(1, 1, -4, 0), (2, 2, 1, 1)]))

    def test_among_all_floors_of_small_sizes(self):
        for n, held in SMALL:
            found = keepers(n, held)
            if found:
                told = held_floors(n, held)
                self.assertIs(tuple, type(told))
                least, greatest = told
                self.assertEqual(place_by_place(min, found), samples.heights_by_words(least))
                self.assertEqual(place_by_place(max, found), samples.heights_by_words(greatest))

    def test_nothing_held(self):
        for n in samples.SIZES:
            self.assertEqual((LEAST[n], GREATEST[n]), held_floors(n, []))
            self.assertEqual((LEAST[n], GREATEST[n]), held_floors(n, [(1, 1, -FAR, FAR), (n, n, 0, n)]))

    def test_all_places_held(self):
        for floor in FLOORS:
            self.assertEqual((floor, floor), held_floors(len(floor), all_held(floor)))
            self.assertEqual((floor, floor), held_floors(len(floor), all_held(floor)[::-1]))

    def test_greater_sizes(self):
        for n, held in KEPT:
            if n > 4:
                least, greatest = held_floors(n, held)
                self.assertEqual(least_by_steps(n, held), samples.heights_by_words(least))
                self.assertEqual(greatest_by_steps(n, held), samples.heights_by_words(greatest))

    def test_both_are_floors_that_keep_it(self):
        for n, held in KEPT[::5] + [(n, held) for n, held in KEPT if n > 4]:
            for floor in held_floors(n, held):
                self.assertIs(True, is_floor(floor))
                self.assertEqual(n, len(floor))
                self.assertTrue(keeps_by_words(samples.heights_by_words(floor), held))

    def test_both_are_lists_of_their_own_where_they_are_equal(self):
        for n in samples.SIZES:
            floor = samples.BROKEN[n][2]
            least, greatest = held_floors(n, all_held(floor))
            least[0][0] = 5
            least[n - 1].append(5)
            self.assertEqual(floor, greatest)
        for n in samples.SIZES:
            self.assert_own(held_floors, n, all_held(samples.BROKEN[n][0]))

    def test_what_is_told_is_the_askers_own(self):
        for n, held in KEPT[::40] + KEPT[-30:]:
            self.assert_own(held_floors, n, held)


class HeldApartTest(HeldPromises, unittest.TestCase):
    def test_written_out(self):
        self.assert_apart(((1, 1), (0, 0)), held_floors, 3, [(1, 1, 3, 4)])
        self.assert_apart(((1, 1), (0, 1)), held_floors, 3, [(1, 1, 2, 4)])
        self.assert_apart(((0, 0), (1, 1)), held_floors, 3, [(1, 1, -1, -1)])
        self.assert_apart(((1, 1), (1, 1)), held_floors, 3, [(1, 1, 1, 0)])
        self.assert_apart(((1, 1), (1, 1)), held_floors, 3, [(1, 1, 1, 1), (1, 1, 0, 0)])
        self.assert_apart(((1, 1), (1, 2)), held_floors, 3, [(1, 2, 0, 0), (1, 1, 1, 1)])
        self.assert_apart(((2, 2), (1, 2)), held_floors, 4, [(2, 2, 2, 2), (1, 2, 0, 0)])
        self.assert_apart(((0, 2), (0, 2)), held_floors, 3, [(0, 2, 1, 1)])
        self.assert_apart(((0, 0), (0, 2)), held_floors, 3, [(0, 2, -1, -1)])
        self.assert_apart(((2, 3), (2, 2)), held_floors, 3, [(2, 2, 0, 0)])
        self.assert_apart(((1, 0), (0, 0)), held_floors, 1, [(1, 0, 2, 2)])

    def test_just_where_no_floor_keeps_it(self):
        for n, held in SMALL:
            if keepers(n, held):
                held_floors(n, held)
                free_places(n, held)
                nearest_floor(ALL[n][0], held)
            else:
                for function in BY_SIZE:
                    self.assert_refused(HeldApart, function, n, held)
                self.assert_refused(HeldApart, nearest_floor, ALL[n][0], held)

    def test_the_least_two_places(self):
        for n, held, fields in APART:
            self.assert_apart(fields, held_floors, n, held)
        for n, held, fields in APART[::3] + APART[-40:]:
            self.assert_apart(fields, free_places, n, held)
            self.assert_apart(fields, nearest_floor, LEAST[n], held)
            self.assert_apart(fields, held_floors, n, held[::-1])

    def test_one_place_alone_asks_too_much(self):
        for n in range(2, 13):
            for i, j in itertools.product(range(1, n), repeat=2):
                high = max(0, i + j - n)
                self.assert_apart(((i, j), (i, j)), held_floors, n, [(i, j, high + 1, high)])

    def test_numbers_of_thirty_figures(self):
        for n in (1, 2, 5, 12):
            for i, j in places(n):
                for low, high in ((FAR, FAR), (-FAR, -FAR), (FAR, -FAR), (FAR, FAR + 1), (-FAR - 1, -FAR)):
                    held = [(i, j, low, high)]
                    self.assert_apart(apart_by_words(n, held), held_floors, n, held)
        self.assert_apart(((1, 1), (1, 1)), held_floors, 2, [(1, 1, -FAR, FAR), (1, 1, 1, FAR), (1, 1, -FAR, 0)])

    def test_a_refusal_changes_nothing(self):
        for n, held, fields in APART[::25]:
            before = copy.deepcopy(held)
            floor = copy.deepcopy(LEAST[n])
            for function in BY_SIZE:
                self.assert_apart(fields, function, n, held)
            self.assert_apart(fields, nearest_floor, floor, held)
            self.assertEqual((before, LEAST[n]), (held, floor))
            self.assert_apart(fields, held_floors, n, held)


class NearestFloorTest(HeldPromises, unittest.TestCase):
    def test_written_out(self):
        self.assertEqual([[0, 1], [1, 0]], nearest_floor([[1, 0], [0, 1]], [(1, 1, -5, 0)]))
        self.assertEqual([[1, 0], [0, 1]], nearest_floor([[1, 0], [0, 1]], [(1, 1, 0, 1)]))
        self.assertEqual([[0, 1, 0], [1, -1, 1], [0, 1, 0]],
                         nearest_floor([[1, 0, 0], [0, 1, 0], [0, 0, 1]], [(1, 1, 0, 0), (2, 2, 1, 1)]))

    def test_no_floor_that_keeps_it_has_a_lesser_gap(self):
        draw = random.Random(9)
        for n, held in SMALL:
            found = keepers(n, held)
            if found:
                low, high = place_by_place(min, found), place_by_place(max, found)
                for floor in draw.sample(ALL[n], min(len(ALL[n]), 3)):
                    own = samples.heights_by_words(floor)
                    told = samples.heights_by_words(nearest_floor(floor, held))
                    self.assertIn(told, found)
                    self.assertEqual(min(gap(own, heights) for heights in found), gap(own, told))
                    for i, j in places(n):
                        span = range(low[i][j], high[i][j] + 1)
                        self.assertEqual(min(span, key=lambda height: abs(height - own[i][j])), told[i][j])

    def test_greater_sizes(self):
        for n, held in KEPT:
            if n > 4:
                least, greatest = least_by_steps(n, held), greatest_by_steps(n, held)
                for floor in samples.BROKEN[n] + [LEAST[n], GREATEST[n]]:
                    own = samples.heights_by_words(floor)
                    expected = place_by_place(lambda numbers: sorted(numbers)[1], (least, own, greatest))
                    told = nearest_floor(floor, held)
                    self.assertEqual(expected, samples.heights_by_words(told))
                    self.assertIs(True, keeps(told, held))

    def test_the_floor_itself_where_it_keeps_held(self):
        draw = random.Random(12)
        for floor in FLOORS:
            for held in ([], all_held(floor), kept_held(floor, 3, draw)):
                told = nearest_floor(floor, held)
                self.assertEqual(floor, told)
                self.assertFalse({id(rows) for rows in samples.inner_lists(told)}
                                 & {id(rows) for rows in samples.inner_lists(floor)})
        told = nearest_floor(samples.SHARED_FLOOR, [])
        told[0][0] = 5
        self.assertEqual([[5, 1, 0], [1, -1, 1], [0, 1, 0]], told)
        self.assertEqual([[0, 1, 0], [1, -1, 1], [0, 1, 0]], samples.SHARED_FLOOR)

    def test_what_is_told_is_the_askers_own(self):
        for n, held in KEPT[::40] + KEPT[-20:]:
            self.assert_own(nearest_floor, copy.deepcopy(LEAST[n]), held)
            self.assert_own(nearest_floor, samples.BROKEN[n][0], held)
            self.assert_own(keeps, samples.BROKEN[n][0], held)


def gap(one, other):
    return sum(abs(a - b) for row, beside in zip(one, other) for a, b in zip(row, beside))


class FreePlacesTest(HeldPromises, unittest.TestCase):
    def test_written_out(self):
        self.assertEqual([], free_places(1, []))
        self.assertEqual([(1, 1)], free_places(2, []))
        self.assertEqual([], free_places(2, [(1, 1, 0, 0)]))
        self.assertEqual([(1, 1), (1, 2), (2, 1), (2, 2)], free_places(3, []))
        self.assertEqual([(1, 2), (2, 1)], free_places(3, [(1, 1, -4, 0), (2, 2, 1, 1)]))

    def test_nothing_held_and_all_held(self):
        for n in samples.SIZES:
            self.assertEqual(list(itertools.product(range(1, n), repeat=2)), free_places(n, []))
            self.assertEqual([], free_places(n, all_held(samples.BROKEN[n][0])))

    def test_where_floors_that_keep_it_are_unlike(self):
        for n, held in SMALL:
            found = keepers(n, held)
            if found:
                expected = [(i, j) for i, j in places(n) if len({heights[i][j] for heights in found}) > 1]
                self.assertEqual(expected, free_places(n, held))

    def test_greater_sizes(self):
        for n, held in KEPT:
            if n > 4:
                least, greatest = least_by_steps(n, held), greatest_by_steps(n, held)
                told = free_places(n, held)
                self.assertEqual([(i, j) for i, j in places(n) if least[i][j] != greatest[i][j]], told)
                self.assertLessEqual({type(place) for place in told}, {tuple})

    def test_what_is_told_is_the_askers_own(self):
        for n, held in KEPT[::40] + KEPT[-20:]:
            self.assert_own(free_places, n, held)


def no_parts(n):
    """Things that are no held places of size n, all but for the last ones of one kind or number only."""
    i, j, low, high = 1, n, 0, n
    yield from ((i, j, low), (i, j, low, high, high), (i, j), (), [i, j, low, high], (i, j, low, high, None))
    for at in range(4):
        for other in (True, False, None, "", "0", "1", (), (1,), [], [1], [[1]], samples.nested(list),
                      samples.nested(tuple)):
            part = [i, j, low, high]
            part[at] = other
            yield tuple(part)
    for other in (-1, -2, n + 1, n + 2, 13, 14, FAR, -FAR):
        if not 0 <= other <= n:
            yield (other, j, low, high)
            yield (i, other, low, high)
    yield from (((i, j, low, high),), ((i, j), (low, high)), [(i, j, low, high)], (i, j, (low, high)), f"{i}{j}{low}9",
                "1 1 0 1", None, True, False, 0, 1, "", "abcd", {}, samples.nested(list), samples.nested(tuple))


def no_held(n):
    good = (1, 1, 0, n)
    for thing in samples.ANYTHING:
        if thing != []:
            yield thing
    yield from (good, (good,), (), [[good]], ([good],), [good, [good]], {good: 1}, "(1, 1, 0, 1)")
    for part in no_parts(n):
        yield [part]
        yield [good, part]
        yield [part, good]
        yield [good] * 299 + [part]


class RefusalsTest(HeldPromises, unittest.TestCase):
    def test_what_is_no_held(self):
        for n in (1, 2, 3, 12):
            for thing in no_held(n):
                for function in BY_SIZE:
                    self.assert_refused(NoHeld, function, n, thing)
                for function in BY_FLOOR:
                    self.assert_refused(NoHeld, function, samples.BROKEN[n][0], thing)

    def test_places_of_the_size_alone(self):
        for n in samples.SIZES:
            self.assertIs(True, keeps(LEAST[n], [(n, n, n, n)]))
            for i, j in ((n + 1, n), (n, n + 1), (n + 1, n + 1), (-1, 0), (0, -1)):
                held = [(i, j, -FAR, FAR)]
                for function in BY_SIZE:
                    self.assert_refused(NoHeld, function, n, held)
                for function in BY_FLOOR:
                    self.assert_refused(NoHeld, function, LEAST[n], held)

    def test_what_is_no_held_ahead_of_places_apart(self):
        for n in (1, 4, 12):
            for held in ([(1, 1, FAR, -FAR), (1, 1, 0)], [(1, 1, 0, True), (1, 1, FAR, FAR)]):
                for function in BY_SIZE:
                    self.assert_refused(NoHeld, function, n, held)
                self.assert_refused(NoHeld, nearest_floor, LEAST[n], held)

    def test_what_is_no_size(self):
        for thing in samples.no_numbers_between(1, 12):
            for held in ([], [(1, 1, 0, 0)], [(1, 1, 1, 0)], None, True, [None], samples.nested(list)):
                for function in BY_SIZE:
                    self.assert_refused(TooMany, function, thing, held)

    def test_what_is_no_floor(self):
        for thing in samples.NO_FLOORS:
            for held in ([], [(1, 1, 0, 0)], [(1, 1, 1, 0)], None, True, [None], samples.nested(tuple)):
                for function in BY_FLOOR:
                    self.assert_refused(NoFloor, function, thing, held)

    def test_a_refusal_changes_nothing(self):
        for held in ([(1, 1, 0, 0), [1, 1, 0, 0]], [(1, 1, 0, True)], [(5, 1, 0, 0)], (1, 1)):
            floor, before = copy.deepcopy(samples.BROKEN[4][0]), copy.deepcopy(held)
            for function in BY_FLOOR:
                self.assert_refused(NoHeld, function, floor, held)
            for function in BY_SIZE:
                self.assert_refused(NoHeld, function, 4, held)
            self.assertEqual(repr((samples.BROKEN[4][0], before)), repr((floor, held)))


if __name__ == "__main__":
    unittest.main()
