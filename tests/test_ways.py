import collections
import unittest

from bowfloor.errors import NoColour, NoEnd, NoFloor, TooMany
from bowfloor.ways import bows_of, hoops_of, rim_ends, stretches_of, way_of
from tests import samples

COLOURS = ("dark", "light")
BY_FLOOR_AND_COLOUR = (stretches_of, bows_of, hoops_of)
OWN_FLOORS = samples.floors_by_words(3) + samples.HOOPED + [floors[0] for floors in samples.BROKEN.values()]
NO_COLOURS = samples.ANYTHING + ["Dark", "LIGHT", "dark ", " dark", "dark\n", "darklight", "dar", "l", "d", ("dark",),
                                 ["dark"], ("dark", "light"), ["dark", "light"], [["light"]]]


def is_dark(floor, stretch):
    """Point 7, word by word."""
    kind, i, j = stretch
    if kind == 0:
        return (i + j + sum(floor[i][k] for k in range(j))) % 2 == 0
    return (i + j + sum(floor[k][j] for k in range(i))) % 2 == 1


def around(i, j):
    """The four stretches of a crossing."""
    return [(0, i, j), (0, i, j + 1), (1, i, j), (1, i + 1, j)]


def every_stretch(n):
    return sorted({stretch for i in range(n) for j in range(n) for stretch in around(i, j)})


def rim(n):
    """Point 8, word by word."""
    order = [(0, 0, 0)]
    for j in range(n):
        order.append((1, 0, j))
    for i in range(n):
        order.append((0, i, n))
    for j in reversed(range(n)):
        order.append((1, n, j))
    for i in reversed(range(1, n)):
        order.append((0, i, 0))
    return order


def ends_by_words(floor, colour):
    return [stretch for stretch in rim(len(floor)) if is_dark(floor, stretch) == (colour == "dark")]


def between(one, other):
    """The one stretch that two crossings share."""
    shared = set(around(*one)) & set(around(*other))
    return shared.pop() if len(shared) == 1 else None


def links_along(crossings):
    return [between(one, other) for one, other in zip(crossings, crossings[1:])]


def neighbours(floor, colour, crossing):
    """The crossings to which a crossing's stretches of the colour lead."""
    links = [link for link in around(*crossing) if is_dark(floor, link) == (colour == "dark")]
    n = len(floor)
    return sorted((i, j) for i in range(n) for j in range(n) if between((i, j), crossing) in links)


class StretchesTest(samples.Promises, unittest.TestCase):
    def test_each_is_told_by_its_words(self):
        for floor in samples.GOOD_FLOORS:
            stretches = every_stretch(len(floor))
            self.assertEqual(2 * len(floor) * (len(floor) + 1), len(stretches))
            self.assertEqual([s for s in stretches if is_dark(floor, s)], stretches_of(floor, "dark"))
            self.assertEqual([s for s in stretches if not is_dark(floor, s)], stretches_of(floor, "light"))

    def test_written_out(self):
        self.assertEqual([(0, 0, 0), (0, 0, 1)], stretches_of([[1]], "dark"))
        self.assertEqual([(1, 0, 0), (1, 1, 0)], stretches_of([[1]], "light"))
        floor = [[1, 0], [0, 1]]
        self.assertEqual([(0, 0, 0), (0, 0, 1), (0, 1, 1), (0, 1, 2), (1, 0, 1), (1, 2, 0)],
                         stretches_of(floor, "dark"))
        self.assertEqual([(0, 0, 2), (0, 1, 0), (1, 0, 0), (1, 1, 0), (1, 1, 1), (1, 2, 1)],
                         stretches_of(floor, "light"))

    def test_two_of_each_colour_at_each_crossing(self):
        for floor in samples.GOOD_FLOORS:
            dark, light = set(stretches_of(floor, "dark")), set(stretches_of(floor, "light"))
            for i in range(len(floor)):
                for j in range(len(floor)):
                    self.assertEqual(2, len(dark & set(around(i, j))))
                    self.assertEqual(2, len(light & set(around(i, j))))

    def test_both_colours_are_all_stretches_in_rising_order(self):
        for floor in samples.GOOD_FLOORS:
            dark, light = stretches_of(floor, "dark"), stretches_of(floor, "light")
            self.assertEqual(every_stretch(len(floor)), sorted(dark + light))
            for told in (dark, light):
                self.assertTrue(all(ahead < after for ahead, after in zip(told, told[1:])))
                self.assertEqual({tuple}, {type(stretch) for stretch in told})


class RimTest(samples.Promises, unittest.TestCase):
    def test_written_out(self):
        self.assertEqual([(0, 0, 0), (0, 0, 1)], rim_ends(1, "dark"))
        self.assertEqual([(1, 0, 0), (1, 1, 0)], rim_ends(1, "light"))
        self.assertEqual([(0, 0, 0), (1, 0, 1), (0, 0, 3), (0, 2, 3), (1, 3, 1), (0, 2, 0)], rim_ends(3, "dark"))
        self.assertEqual([(1, 0, 0), (1, 0, 2), (0, 1, 3), (1, 3, 2), (1, 3, 0), (0, 1, 0)], rim_ends(3, "light"))

    def test_by_turns_in_the_order_of_the_rim(self):
        for n in samples.SIZES:
            dark, light = rim_ends(n, "dark"), rim_ends(n, "light")
            self.assertEqual((2 * n, 2 * n), (len(dark), len(light)))
            self.assertEqual(rim(n), [stretch for both in zip(dark, light) for stretch in both])

    def test_whatever_the_floor_is(self):
        for floor in samples.GOOD_FLOORS:
            for colour in COLOURS:
                self.assertEqual(ends_by_words(floor, colour), rim_ends(len(floor), colour))
                self.assertLessEqual(set(rim_ends(len(floor), colour)), set(stretches_of(floor, colour)))

    def test_what_is_told_is_the_askers_own(self):
        for n in samples.SIZES:
            for colour in COLOURS:
                self.assert_own(rim_ends, n, colour)

    def test_refusals(self):
        for thing in samples.no_numbers_between(1, 12):
            for colour in ("dark", "light", "grey", None, True, samples.nested(list)):
                self.assert_refused(TooMany, rim_ends, thing, colour)
        for thing in NO_COLOURS:
            for n in (1, 5, 12):
                self.assert_refused(NoColour, rim_ends, n, thing)


class WaysTest(samples.Promises, unittest.TestCase):
    def test_written_out(self):
        self.assertEqual([1, 0], bows_of([[1]], "dark"))
        self.assertEqual([1, 0], bows_of([[1]], "light"))
        self.assertEqual([(0, 0)], way_of([[1]], "light", 1))
        floor = [[1, 0], [0, 1]]
        self.assertEqual([1, 0, 3, 2], bows_of(floor, "dark"))
        self.assertEqual([3, 2, 1, 0], bows_of(floor, "light"))
        self.assertEqual([(0, 0), (0, 1)], way_of(floor, "dark", 0))
        self.assertEqual([(1, 0), (1, 1)], way_of(floor, "dark", 3))
        self.assertEqual([(0, 1), (1, 1)], way_of(floor, "light", 1))
        self.assertEqual([(0, 0), (1, 0)], way_of(floor, "light", 0))
        self.assertEqual([3, 2, 1, 0], bows_of([[0, 1], [1, 0]], "dark"))

    def test_each_way_goes_by_stretches_of_its_colour_to_its_partner(self):
        for floor in samples.GOOD_FLOORS:
            for colour in COLOURS:
                bows, ends = bows_of(floor, colour), ends_by_words(floor, colour)
                own = {s for s in every_stretch(len(floor)) if is_dark(floor, s) == (colour == "dark")}
                self.assertEqual(len(ends), len(bows))
                for end, partner in enumerate(bows):
                    way = way_of(floor, colour, end)
                    links = [ends[end]] + links_along(way) + [ends[partner]]
                    self.assertLessEqual(set(links), own)
                    self.assertEqual(len(links), len(set(links)))
                    for crossing, before, after in zip(way, links, links[1:]):
                        self.assertLessEqual({before, after}, set(around(*crossing)))

    def test_the_way_back_is_the_same_one(self):
        for floor in samples.GOOD_FLOORS:
            for colour in COLOURS:
                for end, partner in enumerate(bows_of(floor, colour)):
                    self.assertEqual(way_of(floor, colour, end), way_of(floor, colour, partner)[::-1])

    def test_bows_are_a_pattern(self):
        for floor in samples.GOOD_FLOORS:
            for colour in COLOURS:
                bows = bows_of(floor, colour)
                self.assertTrue(samples.pattern_by_words(bows))
                self.assertEqual({int}, {type(partner) for partner in bows})

    def test_ways_and_hoops_go_by_each_stretch_once(self):
        for floor in samples.GOOD_FLOORS:
            for colour in COLOURS:
                ends = ends_by_words(floor, colour)
                gone = collections.Counter(ends)
                for end, partner in enumerate(bows_of(floor, colour)):
                    if end < partner:
                        gone.update(links_along(way_of(floor, colour, end)))
                for hoop in hoops_of(floor, colour):
                    gone.update(links_along(hoop + hoop[:1]))
                self.assertEqual(collections.Counter(stretches_of(floor, colour)), gone)

    def test_each_crossing_once_for_each_colour(self):
        for floor in samples.GOOD_FLOORS:
            n = len(floor)
            for colour in COLOURS:
                met = [crossing for hoop in hoops_of(floor, colour) for crossing in hoop]
                for end, partner in enumerate(bows_of(floor, colour)):
                    met += way_of(floor, colour, end) if end < partner else []
                self.assertEqual([(i, j) for i in range(n) for j in range(n)], sorted(met))


class HoopsTest(unittest.TestCase):
    def test_samples_have_hoops(self):
        many = [len(hoops_of(floor, colour)) for floor in samples.HOOPED for colour in COLOURS]
        self.assertEqual(13, max(many))
        self.assertGreater(sum(many), 35)
        self.assertEqual(32, max(len(hoop) for hoop in hoops_of(samples.HOOPED[-1], "dark")))

    def test_written_out(self):
        hoop = [(1, 1), (1, 2), (2, 2), (2, 1)]
        self.assertEqual([hoop], hoops_of(samples.drawn_floor("00+0/+000/000+/0+00"), "dark"))
        self.assertEqual([], hoops_of(samples.drawn_floor("00+0/+000/000+/0+00"), "light"))
        self.assertEqual([hoop], hoops_of(samples.drawn_floor("0+00/000+/+000/00+0"), "light"))
        self.assertEqual([], hoops_of(samples.drawn_floor("0+00/000+/+000/00+0"), "dark"))
        self.assertEqual([], hoops_of([[1]], "dark"))
        self.assertEqual([[(1, 1), (1, 2), (2, 2), (2, 1)], [(3, 2), (3, 3), (3, 4), (4, 4), (4, 3), (4, 2)]],
                         hoops_of(samples.HOOPED[2], "dark"))

    def test_each_goes_on_to_its_lesser_neighbour_and_closes(self):
        for floor in samples.GOOD_FLOORS:
            for colour in COLOURS:
                for hoop in hoops_of(floor, colour):
                    self.assertGreaterEqual(len(hoop), 4)
                    self.assertEqual(min(hoop), hoop[0])
                    self.assertEqual([hoop[1], hoop[-1]], neighbours(floor, colour, hoop[0]))
                    for at, crossing in enumerate(hoop):
                        beside = sorted((hoop[at - 1], hoop[(at + 1) % len(hoop)]))
                        self.assertEqual(beside, neighbours(floor, colour, crossing))

    def test_rising_order(self):
        for floor in samples.GOOD_FLOORS:
            for colour in COLOURS:
                hoops = hoops_of(floor, colour)
                self.assertTrue(all(ahead < after for ahead, after in zip(hoops, hoops[1:])))
                self.assertLessEqual({type(hoop) for hoop in hoops}, {list})
                self.assertLessEqual({type(crossing) for hoop in hoops for crossing in hoop}, {tuple})


class PromisesTest(samples.Promises, unittest.TestCase):
    def test_what_is_told_is_the_askers_own(self):
        for floor in OWN_FLOORS:
            for colour in COLOURS:
                for function in BY_FLOOR_AND_COLOUR:
                    self.assert_own(function, floor, colour)
                for end in (0, 1, 2 * len(floor) - 1):
                    self.assert_own(way_of, floor, colour, end)

    def test_one_list_at_two_places(self):
        for colour in COLOURS:
            for function in BY_FLOOR_AND_COLOUR:
                self.assertEqual(function([[0, 1, 0], [1, -1, 1], [0, 1, 0]], colour),
                                 function(samples.SHARED_FLOOR, colour))

    def test_what_is_no_floor(self):
        for thing in samples.NO_FLOORS:
            for colour in ("dark", "light", "grey", None, samples.nested(tuple)):
                for function in BY_FLOOR_AND_COLOUR:
                    self.assert_refused(NoFloor, function, thing, colour)
                for end in (0, 1, -1, None, True):
                    self.assert_refused(NoFloor, way_of, thing, colour, end)

    def test_what_is_no_colour(self):
        for thing in NO_COLOURS:
            for floor in ([[1]], samples.BROKEN[3][0], samples.BROKEN[12][0]):
                for function in BY_FLOOR_AND_COLOUR:
                    self.assert_refused(NoColour, function, floor, thing)
                for end in (0, 1, -1, 24, None, True, samples.nested(list)):
                    self.assert_refused(NoColour, way_of, floor, thing, end)

    def test_what_is_no_end(self):
        for floor in [floors[0] for floors in samples.BROKEN.values()]:
            for colour in COLOURS:
                for thing in samples.no_numbers_between(0, 2 * len(floor) - 1):
                    self.assert_refused(NoEnd, way_of, floor, colour, thing)


if __name__ == "__main__":
    unittest.main()
