import copy
import itertools
import unittest

from bowfloor.errors import NoFloor, NoLanes
from bowfloor.lanes import floor_by_lanes, is_lanes, lanes_of, touches_of
from tests import samples

ALL = {n: samples.floors_by_words(n) for n in (1, 2, 3, 4)}
FLOORS = [floor for floors in ALL.values() for floor in floors] + samples.HOOPED
FLOORS += [floor for n in samples.SIZES for floor in samples.BROKEN[n]]
FLOORS += [samples.unit_floor(list(range(n))) for n in samples.SIZES]
FLOORS += [samples.unit_floor(list(range(n))[::-1]) for n in samples.SIZES]
FLOORS += [samples.diamond_floor(n) for n in (5, 11)]
SOME = ALL[3] + ALL[4][::6] + [samples.BROKEN[n][0] for n in (2, 5, 7, 12)] + [samples.diamond_floor(7)]


def comes_and_goes(lane, at):
    """Whence a lane comes to its crossing with the number, and whither it goes on."""
    here = lane[at]
    comes = "beneath" if at == 0 or lane[at - 1][0] == here[0] + 1 else "left"
    goes = "right" if at == len(lane) - 1 or lane[at + 1][1] == here[1] + 1 else "above"
    return comes, goes


def stretches_along(lane, number, n):
    """The stretches by which a lane goes, the one beneath its first crossing and the one behind its last too."""
    told = [(1, n, number)]
    for (i, j), (k, m) in zip(lane, lane[1:]):
        told.append((1, i, j) if k < i else (0, k, m))
    return told + [(0, number, n)]


def stretches_by_words(floor):
    """The stretches that point 18 tells for the lanes of a floor."""
    n = len(floor)
    level = {(0, i, j) for i in range(n) for j in range(n + 1) if sum(floor[i][:j]) == 1}
    upright = {(1, i, j) for i in range(n + 1) for j in range(n) if sum(floor[k][j] for k in range(i)) == 1}
    return level | upright


def is_lane_by_words(lane, number, n):
    if not lane or lane[0] != (n - 1, number) or lane[-1] != (number, n - 1):
        return False
    return all((k, m) in ((i - 1, j), (i, j + 1)) for (i, j), (k, m) in zip(lane, lane[1:]))


def are_lanes_by_words(lanes):
    """Point 18, word by word, of a list of lists of tuples of two whole numbers."""
    n = len(lanes)
    if not 1 <= n <= 12 or not all(is_lane_by_words(lane, k, n) for k, lane in enumerate(lanes)):
        return False
    for one, other in itertools.combinations(range(n), 2):
        if set(stretches_along(lanes[one], one, n)) & set(stretches_along(lanes[other], other, n)):
            return False
        for crossing in set(lanes[one]) & set(lanes[other]):
            both = [comes_and_goes(lanes[k], lanes[k].index(crossing)) for k in (one, other)]
            if sorted(both) != [("beneath", "right"), ("left", "above")]:
                return False
    return True


def all_paths(start, end):
    """All lists of crossings from start to end by steps above and to the right."""
    if start == end:
        return [[start]]
    (i, j), (k, m) = start, end
    steps = [(i - 1, j)] * (i > k) + [(i, j + 1)] * (j < m)
    return [[start] + rest for step in steps for rest in all_paths(step, end)]


def families(n):
    """All lists of n paths that begin and end as lanes of size n do."""
    return itertools.product(*(all_paths((n - 1, k), (k, n - 1)) for k in range(n)))


class IsLanesTest(unittest.TestCase):
    def test_all_families_of_small_sizes(self):
        for n, many in ((1, 1), (2, 2), (3, 7), (4, 42), (5, 429)):
            good = 0
            for family in families(n):
                lanes = [list(lane) for lane in family]
                expected = are_lanes_by_words(lanes)
                self.assertIs(expected, is_lanes(lanes))
                good += expected
            self.assertEqual(many, good)

    def test_written_out(self):
        self.assertIs(True, is_lanes([[(0, 0)]]))
        self.assertIs(True, is_lanes([[(1, 0), (0, 0), (0, 1)], [(1, 1)]]))
        self.assertIs(True, is_lanes([[(1, 0), (1, 1), (0, 1)], [(1, 1)]]))
        # Both go by the stretch between (2, 1) and (2, 2).
        self.assertIs(False, is_lanes([[(2, 0), (2, 1), (2, 2), (1, 2), (0, 2)], [(2, 1), (2, 2), (1, 2)], [(2, 2)]]))
        # Both go by the stretch between (1, 1) and (1, 2), having come to it from two sides.
        self.assertIs(False, is_lanes([[(2, 0), (1, 0), (1, 1), (1, 2), (0, 2)], [(2, 1), (1, 1), (1, 2)], [(2, 2)]]))
        # At (2, 1) and at (1, 2) two lanes cross, but none goes by a stretch of the other one.
        self.assertIs(False, is_lanes([[(3, 0), (2, 0), (2, 1), (2, 2), (1, 2), (0, 2), (0, 3)],
                                       [(3, 1), (2, 1), (1, 1), (1, 2), (1, 3)], [(3, 2), (3, 3), (2, 3)], [(3, 3)]]))

    def test_one_path_bent_at_a_corner(self):
        seen = {True: 0, False: 0}
        for floor in FLOORS:
            lanes = lanes_of(floor)
            for k, lane in enumerate(lanes):
                for at in range(1, len(lane) - 1):
                    (i, j), (a, b) = lane[at - 1], lane[at + 1]
                    if i != a and j != b:
                        corner = (a, j) if lane[at] == (i, b) else (i, b)
                        bent = lanes[:k] + [lane[:at] + [corner] + lane[at + 1:]] + lanes[k + 1:]
                        expected = are_lanes_by_words(bent)
                        self.assertIs(expected, is_lanes(bent))
                        seen[expected] += 1
        self.assertGreater(min(seen.values()), 50)

    def test_lanes_that_cross(self):
        seen = 0
        for floor in FLOORS:
            lanes = lanes_of(floor)
            for crossing in touches_of(floor):
                one, other = [k for k, lane in enumerate(lanes) if crossing in lane]
                at, beside = lanes[one].index(crossing), lanes[other].index(crossing)
                tails = lanes[other][beside:], lanes[one][at:]
                bent = list(lanes)
                bent[one], bent[other] = lanes[one][:at] + tails[0], lanes[other][:beside] + tails[1]
                self.assertIs(False, is_lanes(bent))
                seen += 1
                # Lanes that touch twice and exchange what lies between have good ends, but cross at both touches.
                for second in set(lanes[one][at + 1:]) & set(lanes[other][beside + 1:]):
                    there, beyond = lanes[one].index(second), lanes[other].index(second)
                    bent = list(lanes)
                    bent[one] = lanes[one][:at] + lanes[other][beside:beyond] + lanes[one][there:]
                    bent[other] = lanes[other][:beside] + lanes[one][at:there] + lanes[other][beyond:]
                    self.assertTrue(is_lane_by_words(bent[one], one, len(floor)))
                    self.assertTrue(is_lane_by_words(bent[other], other, len(floor)))
                    self.assertIs(False, is_lanes(bent))
        self.assertGreater(seen, 50)

    def test_one_crossing_left_out_doubled_or_exchanged(self):
        for floor in SOME:
            lanes = lanes_of(floor)
            n = len(floor)
            for k, lane in enumerate(lanes):
                for at, (i, j) in enumerate(lane):
                    tails = [lane[:at] + lane[at + 1:], lane[:at] + [(i, j)] + lane[at:]]
                    tails += [lane[:at] + [other] + lane[at + 1:] for other in (
                        (i + 1, j), (i, j - 1), (j, i), (i - n, j), (i, j - n), (n, j), (i, n), (-1, j))
                        if other != (i, j)]
                    tails += [lane[:at - 1] + [lane[at], lane[at - 1]] + lane[at + 1:]] if at else []
                    for tail in tails:
                        bent = lanes[:k] + [tail] + lanes[k + 1:]
                        self.assertIs(are_lanes_by_words(bent), is_lanes(bent))
                    for other in ([i, j], (i,), (i, j, 0), (i, j, j), ((i, j),), [(i, j)], (i, str(j)), (str(i), j),
                                  (i, None), (None, j), ((i,), j), (i, [j]), None, True, False, 0, "", f"{i}{j}", (),
                                  [], (i + 10 ** 29, j), (i, -10 ** 29), samples.nested(list), samples.nested(tuple),
                                  (i, samples.nested(list)), (samples.nested(tuple), j)):
                        bent = lanes[:k] + [lane[:at] + [other] + lane[at + 1:]] + lanes[k + 1:]
                        self.assertIs(False, is_lanes(bent))

    def test_one_crossing_too_many(self):
        for floor in SOME:
            lanes = lanes_of(floor)
            n = len(floor)
            for k, lane in enumerate(lanes):
                for tail in ([(n, k)] + lane, lane + [(k, n)], [lane[0]] + lane, lane + [lane[-1]], lane + [None],
                             [None] + lane, lane + [[]], lane + [()], lane[::-1], [], lane + lane, [lane]):
                    if tail != lane:
                        self.assertIs(False, is_lanes(lanes[:k] + [tail] + lanes[k + 1:]))

    def test_detours(self):
        for bent in ([[(1, 0), (1, 1), (1, 0), (0, 0), (0, 1)], [(1, 1)]],
                     [[(1, 0), (0, 0), (1, 0), (0, 0), (0, 1)], [(1, 1)]],
                     [[(1, 0), (0, 1)], [(1, 1)]], [[(1, 0), (0, 0), (-1, 0), (-1, 1), (0, 1)], [(1, 1)]],
                     [[(1, 0), (2, 0), (2, 1), (1, 1), (0, 1)], [(1, 1)]]):
            self.assertIs(False, is_lanes(bent), bent)

    def test_lanes_exchanged_left_out_or_told_twice(self):
        for floor in FLOORS:
            lanes = lanes_of(floor)
            for one, other in itertools.combinations(range(len(lanes)), 2):
                bent = list(lanes)
                bent[one], bent[other] = lanes[other], lanes[one]
                self.assertIs(False, is_lanes(bent))
                bent[one] = lanes[one]
                self.assertIs(False, is_lanes(bent))
                self.assertIs(False, is_lanes(lanes[:one] + [lanes[other]] + lanes[one + 1:]))
            for k in range(len(lanes)):
                self.assertIs(False, is_lanes(lanes[:k] + lanes[k + 1:]))
                self.assertIs(False, is_lanes(lanes[:k] + [lanes[k]] + lanes[k:]))
                self.assertIs(False, is_lanes(lanes[:k] + [list(lanes[k])] + lanes[k:]))
            if len(lanes) > 1:
                self.assertIs(False, is_lanes(lanes[::-1]))

    def test_one_lane_of_another_kind(self):
        for floor in SOME:
            lanes = lanes_of(floor)
            for k, lane in enumerate(lanes):
                for other in (tuple(lane), [list(crossing) for crossing in lane], {at: True for at in lane}, None, True,
                              0, "", "lane", (), [], [lane], repr(lane), samples.nested(list), samples.nested(tuple),
                              [samples.nested(list)], [samples.nested(tuple)]):
                    self.assertIs(False, is_lanes(lanes[:k] + [other] + lanes[k + 1:]))

    def test_true_and_false_are_no_numbers(self):
        for bent in ([[(False, False)]], [[(0, False)]], [[(False, 0)]],
                     [[(True, 0), (0, 0), (0, 1)], [(1, 1)]], [[(1, 0), (0, False), (0, 1)], [(1, 1)]],
                     [[(1, 0), (0, 0), (0, True)], [(1, 1)]], [[(1, 0), (0, 0), (0, 1)], [(1, True)]]):
            self.assertIs(False, is_lanes(bent), bent)

    def test_sizes_nought_and_thirteen(self):
        for n in (13, 14):
            plain = [[(i, k) for i in range(n - 1, k - 1, -1)] + [(k, j) for j in range(k + 1, n)] for k in range(n)]
            self.assertIs(False, is_lanes(plain))
            twelve = [[(i - n + 12, j - n + 12) for i, j in lane] for lane in plain[n - 12:]]
            self.assertIs(True, is_lanes(twelve))
        self.assertIs(False, is_lanes([]))
        self.assertIs(False, is_lanes([[]]))

    def test_other_kinds(self):
        for thing in samples.ANYTHING + samples.GOOD_FLOORS[:30]:
            self.assertIs(False, is_lanes(thing))
            self.assertIs(False, is_lanes([thing]))
            self.assertIs(False, is_lanes([[thing]]))
            self.assertIs(samples.is_same_number(thing, 0), is_lanes([[(thing, thing)]]))
        for floor in FLOORS:
            lanes = lanes_of(floor)
            for thing in (tuple(lanes), [lanes], (lanes,), repr(lanes), [tuple(lane) for lane in lanes],
                          {k: lane for k, lane in enumerate(lanes)}, lanes + [None], lanes + [[]], [None] + lanes,
                          lanes[0], floor):
                self.assertIs(False, is_lanes(thing))

    def test_nothing_is_changed(self):
        for thing in [lanes_of(floor) for floor in SOME] + [[[(0, True)]], [], [[(1, 0), (0, 1)], [(1, 1)]]]:
            before = copy.deepcopy(thing)
            self.assertIs(is_lanes(thing), is_lanes(thing))
            self.assertEqual(repr(before), repr(thing))


class LanesOfTest(samples.Promises, unittest.TestCase):
    def test_written_out(self):
        self.assertEqual([[(0, 0)]], lanes_of([[1]]))
        self.assertEqual([[(1, 0), (0, 0), (0, 1)], [(1, 1)]], lanes_of([[1, 0], [0, 1]]))
        self.assertEqual([[(1, 0), (1, 1), (0, 1)], [(1, 1)]], lanes_of([[0, 1], [1, 0]]))
        self.assertEqual([[(2, 0), (1, 0), (1, 1), (0, 1), (0, 2)], [(2, 1), (2, 2), (1, 2)], [(2, 2)]],
                         lanes_of(samples.SHARED_FLOOR))

    def test_each_from_its_place_to_its_place(self):
        for floor in FLOORS:
            n = len(floor)
            lanes = lanes_of(floor)
            self.assertEqual(n, len(lanes))
            for k, lane in enumerate(lanes):
                self.assertIs(list, type(lane))
                self.assertEqual({tuple}, {type(crossing) for crossing in lane})
                self.assertEqual({int}, {type(number) for crossing in lane for number in crossing})
                self.assertTrue(is_lane_by_words(lane, k, n))

    def test_they_are_lanes(self):
        for floor in FLOORS:
            self.assertTrue(are_lanes_by_words(lanes_of(floor)))
            self.assertIs(True, is_lanes(lanes_of(floor)))

    def test_just_the_stretches_that_are_told(self):
        for floor in FLOORS:
            n = len(floor)
            gone = [stretch for k, lane in enumerate(lanes_of(floor)) for stretch in stretches_along(lane, k, n)]
            self.assertEqual(len(gone), len(set(gone)))
            self.assertEqual(stretches_by_words(floor), set(gone))

    def test_what_is_told_is_the_askers_own(self):
        for floor in FLOORS:
            self.assert_own(lanes_of, floor)
            self.assert_own(touches_of, floor)
        samples.spoil(lanes_of(samples.SHARED_FLOOR))
        self.assertEqual([[0, 1, 0], [1, -1, 1], [0, 1, 0]], samples.SHARED_FLOOR)


class FloorByLanesTest(samples.Promises, unittest.TestCase):
    def test_written_out(self):
        self.assertEqual([[1]], floor_by_lanes([[(0, 0)]]))
        self.assertEqual([[0, 1], [1, 0]], floor_by_lanes([[(1, 0), (1, 1), (0, 1)], [(1, 1)]]))

    def test_there_and_back(self):
        for floor in FLOORS + [samples.SHARED_FLOOR]:
            self.assertEqual(floor, floor_by_lanes(lanes_of(floor)))

    def test_each_good_family_is_that_of_one_floor(self):
        for n in (1, 2, 3, 4):
            good = [list(map(list, family)) for family in families(n) if are_lanes_by_words(family)]
            floors = [floor_by_lanes(lanes) for lanes in good]
            self.assertEqual(ALL[n], sorted(floors))
            self.assertEqual(good, [lanes_of(floor) for floor in floors])

    def test_what_is_told_is_the_askers_own(self):
        for floor in FLOORS:
            self.assert_own(floor_by_lanes, lanes_of(floor))


class TouchesTest(unittest.TestCase):
    def test_written_out(self):
        self.assertEqual([], touches_of([[1]]))
        self.assertEqual([], touches_of([[1, 0], [0, 1]]))
        self.assertEqual([(1, 1)], touches_of([[0, 1], [1, 0]]))
        self.assertEqual([(1, 2), (2, 1), (2, 2)], touches_of([[0, 0, 1], [0, 1, 0], [1, 0, 0]]))

    def test_the_crossings_of_two_lanes(self):
        for floor in FLOORS:
            lanes = lanes_of(floor)
            pairs = itertools.combinations(lanes, 2)
            expected = {crossing for one, other in pairs for crossing in set(one) & set(other)}
            told = touches_of(floor)
            self.assertEqual(sorted(expected), told)
            self.assertLessEqual({type(crossing) for crossing in told}, {tuple})

    def test_by_the_stretches(self):
        for floor in FLOORS:
            n = len(floor)
            gone = stretches_by_words(floor)
            expected = [(i, j) for i in range(n) for j in range(n) if (0, i, j) in gone and (1, i + 1, j) in gone]
            self.assertEqual(expected, touches_of(floor))


class RefusalsTest(samples.Promises, unittest.TestCase):
    def test_what_is_no_floor(self):
        for thing in samples.NO_FLOORS + [lanes_of(floor) for floor in SOME]:
            for function in (lanes_of, touches_of):
                self.assert_refused(NoFloor, function, thing)

    def test_what_are_no_lanes(self):
        for thing in samples.ANYTHING + SOME + [[[(False, 0)]], [[[0, 0]]], [((0, 0),)], ([(0, 0)],), [[(0, 0)], []]]:
            self.assert_refused(NoLanes, floor_by_lanes, thing)
        for n in (2, 3, 4):
            for family in families(n):
                lanes = [list(lane) for lane in family]
                if not are_lanes_by_words(lanes):
                    self.assert_refused(NoLanes, floor_by_lanes, lanes)

    def test_a_refusal_changes_nothing(self):
        for thing in ([[(1, 0), (0, 0), (0, 1)], [(1, True)]], [[(1, 0), (0, 1)], [(1, 1)]], [[[0, 0]]]):
            before = copy.deepcopy(thing)
            self.assert_refused(NoLanes, floor_by_lanes, thing)
            self.assertEqual(repr(before), repr(thing))


if __name__ == "__main__":
    unittest.main()
