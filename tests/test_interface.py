"""The names and arguments that the document's interface lists."""

import importlib
import inspect
import unittest

MODULES = {
    "floors": "is_floor(thing) floor_size(floor) plain_floor(n) mirrored_floor(floor) crossed_floor(floor) "
              "quartered_floor(floor) all_floors(n)",
    "heights": "is_heights(thing) heights_of(floor) floor_by(heights)",
    "ways": "stretches_of(floor,colour) rim_ends(n,colour) bows_of(floor,colour) way_of(floor,colour,end) "
            "hoops_of(floor,colour)",
    "patterns": "is_pattern(thing) all_patterns(n) pattern_turned(pattern,by) pattern_mirrored(pattern) "
                "short_bows(pattern) bows_over(pattern) pattern_pressed(pattern,end)",
    "turns": "turns_of(floor) floor_after(floor,turn) gap_of(one,other) way_between(one,other) "
             "judge_way(one,other,way)",
    "rounds": "half_round(floor,rest) round_of(floor) round_back(floor) rounds_of(floor,many) round_count(floor)",
    "held": "keeps(floor,held) held_floors(n,held) nearest_floor(floor,held) free_places(n,held)",
    "lanes": "is_lanes(thing) lanes_of(floor) floor_by_lanes(lanes) touches_of(floor)",
    "counts": "pattern_counts(n) floors_with(pattern) pressed_counts(n) judge_counts(n,counts)",
    "evens": "even_words(floor) even_counts(n)",
    "pushes": "pushed_floor(floor,pushes) ends_met(n,pushes)",
    "texts": "shown_floor(floor) shown_pattern(pattern) read_floor(text) read_pattern(text)",
}


class InterfaceTest(unittest.TestCase):
    def test_the_desk(self):
        desk = importlib.import_module("bowfloor.desk").Desk
        self.assertEqual((object,), desk.__bases__)
        self.assertIn("tell", vars(desk))
        self.assertEqual([], list(inspect.signature(desk).parameters))
        self.assertEqual(["self", "line"], list(inspect.signature(desk.tell).parameters))

    def test_each_function_is_there_with_its_arguments(self):
        for module, listed in MODULES.items():
            found = importlib.import_module(f"bowfloor.{module}")
            for words in listed.split():
                name, arguments = words.rstrip(")").split("(")
                function = getattr(found, name)
                self.assertEqual(f"bowfloor.{module}", function.__module__)
                parameters = list(inspect.signature(function).parameters.values())
                self.assertEqual(arguments.split(","), [parameter.name for parameter in parameters], name)
                for parameter in parameters:
                    self.assertIs(parameter.POSITIONAL_OR_KEYWORD, parameter.kind)
                    self.assertIs(parameter.empty, parameter.default)


if __name__ == "__main__":
    unittest.main()
