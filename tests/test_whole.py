"""What points 2 to 4 promise over the whole program, tried on every function that takes something."""

import itertools
import unittest

from bowfloor import counts, evens, floors, heights, held, lanes, patterns, pushes, rounds, texts, turns, ways
from bowfloor import errors
from tests import samples
from tests.test_interface import MODULES

FLOOR = samples.BROKEN[4][0]
PATTERN = [5, 2, 1, 4, 3, 0, 7, 6]

# For each kind of argument: a good one that fits FLOOR, what is due where it is none, and which of ANYTHING are good.
KINDS = {
    "floor": (FLOOR, "NoFloor", ()),
    "heights": (samples.heights_by_words(FLOOR), "NoHeights", ()),
    "pattern": (PATTERN, "NoPattern", ()),
    "lanes": (lanes.lanes_of(FLOOR), "NoLanes", ()),
    "size": (4, "TooMany", (1, 2, 12)),
    "size to 5": (4, "TooMany", (1, 2)),
    "size to 6": (4, "TooMany", (1, 2)),
    "rounds": (3, "TooMany", (0, 1, 2, 12, 13)),
    "colour": ("dark", "NoColour", ()),
    "end": (0, "NoEnd", (0, 1, 2)),
    "number": (5, "NoNumber", (0, 1, -1, 2, 12, 13, 10 ** 29, -10 ** 29)),
    "turn": (turns.turns_of(FLOOR)[0], "NoTurn", ()),
    "rest": (1, "NoRest", (0, 1)),
    "held": ([(1, 1, 0, 1)], "NoHeld", ([],)),
    "pushes": ([(1, 1, -1)], "NoPushes", ([],)),
    "floor text": ("+0\n0+", "NoText", ("+", "+0\n0+")),
    "pattern text": ("(())", "NoText", ()),
    "anything": ([], None, samples.ANYTHING),
}
FUNCTIONS = [
    (floors.is_floor, ["anything"]), (floors.floor_size, ["floor"]), (floors.plain_floor, ["size"]),
    (floors.mirrored_floor, ["floor"]), (floors.crossed_floor, ["floor"]), (floors.quartered_floor, ["floor"]),
    (floors.all_floors, ["size to 5"]), (heights.is_heights, ["anything"]), (heights.heights_of, ["floor"]),
    (heights.floor_by, ["heights"]), (ways.stretches_of, ["floor", "colour"]), (ways.rim_ends, ["size", "colour"]),
    (ways.bows_of, ["floor", "colour"]), (ways.way_of, ["floor", "colour", "end"]),
    (ways.hoops_of, ["floor", "colour"]),
    (patterns.is_pattern, ["anything"]), (patterns.all_patterns, ["size to 6"]),
    (patterns.pattern_turned, ["pattern", "number"]), (patterns.pattern_mirrored, ["pattern"]),
    (patterns.short_bows, ["pattern"]), (patterns.bows_over, ["pattern"]),
    (patterns.pattern_pressed, ["pattern", "end"]),
    (turns.turns_of, ["floor"]), (turns.floor_after, ["floor", "turn"]), (turns.gap_of, ["floor", "floor"]),
    (turns.way_between, ["floor", "floor"]), (turns.judge_way, ["floor", "floor", "anything"]),
    (rounds.half_round, ["floor", "rest"]), (rounds.round_of, ["floor"]), (rounds.round_back, ["floor"]),
    (rounds.rounds_of, ["floor", "rounds"]), (rounds.round_count, ["floor"]), (held.keeps, ["floor", "held"]),
    (held.held_floors, ["size", "held"]), (held.nearest_floor, ["floor", "held"]), (held.free_places, ["size", "held"]),
    (lanes.is_lanes, ["anything"]), (lanes.lanes_of, ["floor"]), (lanes.floor_by_lanes, ["lanes"]),
    (lanes.touches_of, ["floor"]), (counts.pattern_counts, ["size to 5"]), (counts.floors_with, ["pattern"]),
    (counts.pressed_counts, ["size to 5"]), (counts.judge_counts, ["size to 6", "anything"]),
    (evens.even_words, ["floor"]), (evens.even_counts, ["size to 5"]), (pushes.pushed_floor, ["floor", "pushes"]),
    (pushes.ends_met, ["size", "pushes"]), (texts.shown_floor, ["floor"]), (texts.shown_pattern, ["pattern"]),
    (texts.read_floor, ["floor text"]), (texts.read_pattern, ["pattern text"]),
]


def is_same(one, other):
    """Whether two things are equal and of one kind; True and 1 are not."""
    return type(one) is type(other) and one == other


def wrong_things(kind):
    good, refusal, among = KINDS[kind]
    if refusal is None:
        return []
    return [thing for thing in samples.ANYTHING if not any(is_same(thing, other) for other in among)]


class EveryFunctionTest(samples.Promises, unittest.TestCase):
    def test_none_is_left_out(self):
        listed = [words.split("(")[0] for module in MODULES.values() for words in module.split()]
        self.assertEqual(sorted(listed), sorted(function.__name__ for function, kinds in FUNCTIONS))

    def test_good_things_are_not_refused(self):
        for function, kinds in FUNCTIONS:
            function(*[KINDS[kind][0] for kind in kinds])
            for at, kind in enumerate(kinds):
                for thing in KINDS[kind][2]:
                    given = [KINDS[kind][0] for kind in kinds]
                    given[at] = thing
                    function(*given)

    def test_each_refusal_with_its_class(self):
        for function, kinds in FUNCTIONS:
            for at, kind in enumerate(kinds):
                for thing in wrong_things(kind):
                    given = [KINDS[kind][0] for kind in kinds]
                    given[at] = thing
                    self.assert_refused(getattr(errors, KINDS[kind][1]), function, *given)

    def test_the_refusal_named_first_where_two_are_due(self):
        for function, kinds in FUNCTIONS:
            for one, other in itertools.combinations(range(len(kinds)), 2):
                for thing, beside in itertools.product(wrong_things(kinds[one])[::3], wrong_things(kinds[other])[::3]):
                    given = [KINDS[kind][0] for kind in kinds]
                    given[one], given[other] = thing, beside
                    self.assert_refused(getattr(errors, KINDS[kinds[one]][1]), function, *given)

    def test_what_is_told_is_the_askers_own(self):
        for function, kinds in FUNCTIONS:
            self.assert_own(function, *[KINDS[kind][0] for kind in kinds])

    def test_whatever_was_told_may_be_handed_in_again(self):
        for n in samples.SIZES:
            floor = samples.BROKEN[n][0]
            self.assertEqual(floor, heights.floor_by(heights.heights_of(floor)))
            self.assertEqual(floor, lanes.floor_by_lanes(lanes.lanes_of(floor)))
            self.assertEqual(floor, texts.read_floor(texts.shown_floor(floor)))
            bows = ways.bows_of(floor, "dark")
            self.assertEqual(bows, texts.read_pattern(texts.shown_pattern(bows)))
            other = floors.mirrored_floor(floor)
            way = turns.way_between(floor, other)
            self.assertIs(True, turns.judge_way(floor, other, way))
            self.assertEqual(other, pushes.pushed_floor(floor, way))
            for told in held.held_floors(n, []):
                self.assertIs(True, held.keeps(told, []))


if __name__ == "__main__":
    unittest.main()
