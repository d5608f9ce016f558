import itertools
import random
import unittest

from bowfloor.desk import Desk
from bowfloor.errors import (HeldApart, NoHeld, NoLine, NoPushes, NoText, NoTurn, NoUndo, OtherSize, TooMany)
from bowfloor.floors import crossed_floor, mirrored_floor, quartered_floor
from bowfloor.held import free_places, nearest_floor
from bowfloor.rounds import round_back, round_of
from bowfloor.turns import gap_of, turns_of
from bowfloor.ways import bows_of, hoops_of
from tests import samples

PLAIN = "+00/0+0/00+"
ALONE = ("show", "dark", "light", "hoops", "gap", "mirror", "cross", "quarter", "free", "near", "home", "back", "undo")
WITH_NUMBERS = {"size": 1, "turn": 3, "push": 3, "round": 1, "hold": 4}
FLOORS = samples.floors_by_words(3) + samples.HOOPED + [floor for n in samples.SIZES for floor in samples.BROKEN[n]]


def written(floor):
    return "/".join("".join("0+-"[number] for number in row) for row in floor)


def bows(floor, colour="dark"):
    return "".join("(" if partner > end else ")" for end, partner in enumerate(bows_of(floor, colour)))


def desk_with(*lines):
    desk = Desk()
    for line in lines:
        desk.tell(line)
    return desk


def desk_at(floor):
    return desk_with("floor " + written(floor))


def lines_left(desk):
    """How many lines could be undone; holding always changes something, so it can be undone at once."""
    desk.tell("hold 0 0 0 0")
    return int(desk.tell("undo").split()[1])


def peek(desk, *lines):
    """The answers to the lines, all of which are undone again."""
    left = lines_left(desk)
    told = [desk.tell(line) for line in lines]
    while lines_left(desk) > left:
        desk.tell("undo")
    return told


def seen_of(desk):
    """All that a desk tells of its floor, home, held places and lines, which leaves it as it was."""
    told = [desk.tell(line) for line in ("show", "dark", "light", "hoops", "gap")]
    for lines in (("free",), ("back", "show"), ("near", "show"), ("hold 0 0 0 0",)):
        told += peek(desk, *lines)
    return told + [lines_left(desk)]


class DeskPromises(samples.Promises):
    def assert_tells(self, desk, *pairs):
        """Each line is answered so, one after the other."""
        for line, answer in pairs:
            told = desk.tell(line)
            self.assertIs(str, type(told))
            self.assertEqual((line, answer), (line, told))

    def assert_line_refused(self, refusal, desk, line):
        """The line is refused so, and the desk is as it was."""
        before = seen_of(desk)
        self.assert_refused(refusal, desk.tell, line)
        self.assertEqual(before, seen_of(desk))

    def assert_apart(self, fields, desk, line):
        try:
            desk.tell(line)
        except HeldApart as error:
            self.assertEqual(fields, (error.one, error.other))
            self.assertEqual((tuple, tuple), (type(error.one), type(error.other)))
        else:
            self.fail(f"{line} refused nothing")


class NewDeskTest(DeskPromises, unittest.TestCase):
    def test_it_begins_with_the_plain_floor_of_size_three(self):
        self.assert_tells(Desk(), ("show", PLAIN), ("gap", "0"), ("dark", "()(())"), ("light", "((()))"),
                          ("hoops", "0 0"), ("home", "home 0"), ("back", "back 0"), ("free", "free 0"),
                          ("near", "near 0"), ("hold 1 1 0 1", "hold 4"))

    def test_each_line_at_a_new_desk(self):
        for line, answer, shown in (
                ("size 3", "size 3", PLAIN), ("size 1", "size 1", "+"), ("size 2", "size 2", "+0/0+"),
                ("floor 0+0/+-+/0+0", "floor 3", "0+0/+-+/0+0"), ("floor +", "floor 1", "+"), ("show", PLAIN, PLAIN),
                ("dark", "()(())", PLAIN), ("light", "((()))", PLAIN), ("hoops", "0 0", PLAIN), ("gap", "0", PLAIN),
                ("turn 1 1 -1", "turn 1", "0+0/+00/00+"), ("turn 2 2 -1", "turn 1", "+00/00+/0+0"),
                ("push 1 1 -1", "push", "0+0/+00/00+"), ("push 1 1 1", "stays", PLAIN), ("push 1 2 1", "stays", PLAIN),
                ("push 12 12 -1", "stays", PLAIN), ("push 3 3 1", "stays", PLAIN), ("round 0", "()(())", PLAIN),
                ("round 1", "(())()", "00+/0+0/+00"), ("round -1", "((()))", "0+0/+-+/0+0"),
                ("round 3", "()(())", PLAIN),
                ("round 60", "()(())", PLAIN), ("round -60", "()(())", PLAIN), ("mirror", "(())()", "00+/0+0/+00"),
                ("cross", "()(())", PLAIN), ("quarter", "(())()", "00+/0+0/+00"), ("hold 1 1 0 1", "hold 4", PLAIN),
                ("hold 1 1 1 1", "hold 1", PLAIN), ("hold 0 3 0 0", "hold 4", PLAIN), ("free", "free 0", PLAIN),
                ("near", "near 0", PLAIN), ("home", "home 0", PLAIN), ("back", "back 0", PLAIN)):
            desk = Desk()
            self.assert_tells(desk, (line, answer), ("show", shown))

    def test_two_desks_beside_one_another(self):
        one, other = Desk(), Desk()
        fresh = seen_of(Desk())
        for line in ("turn 1 1 -1", "hold 1 1 0 0", "home", "round 5", "size 4", "floor +0/0+", "undo", "mirror"):
            one.tell(line)
            self.assertEqual(fresh, seen_of(other))
        before = seen_of(one)
        other.tell("size 5")
        other.tell("hold 2 2 1 1")
        self.assertEqual(before, seen_of(one))
        self.assertEqual(fresh, seen_of(Desk()))

    def test_the_methods_of_the_class(self):
        self.assertIn("tell", vars(Desk))


class ToldLinesTest(DeskPromises, unittest.TestCase):
    def test_size(self):
        for n in samples.SIZES:
            desk = desk_with("turn 1 1 -1", "hold 1 1 0 1")
            plain = written(samples.unit_floor(list(range(n))))
            self.assert_tells(desk, (f"size {n}", f"size {n}"), ("show", plain), ("gap", "0"), ("free", "free 0"),
                              ("back", "back 0"), ("undo", "undo 2"), ("show", "0+0/+00/00+"), ("gap", "1"),
                              ("free", "free 1"))

    def test_floor(self):
        for floor in FLOORS:
            desk = desk_with("turn 1 1 -1", "hold 1 1 0 1")
            self.assert_tells(desk, ("floor " + written(floor), f"floor {len(floor)}"), ("show", written(floor)),
                              ("gap", "0"), ("free", "free 0"), ("back", "back 0"), ("undo", "undo 2"),
                              ("show", "0+0/+00/00+"), ("gap", "1"), ("free", "free 1"))

    def test_lines_that_only_ask(self):
        for floor in FLOORS:
            desk = desk_at(floor)
            hoops = [len(hoops_of(floor, colour)) for colour in ("dark", "light")]
            self.assert_tells(desk, ("dark", bows(floor)), ("light", bows(floor, "light")),
                              ("hoops", f"{hoops[0]} {hoops[1]}"), ("gap", "0"), ("show", written(floor)))
            plain = samples.unit_floor(list(range(len(floor))))
            desk.tell(f"size {len(floor)}")
            self.assertEqual("0", desk.tell("gap"))
            desk.tell("mirror")
            self.assertEqual(str(gap_of(plain, mirrored_floor(plain))), desk.tell("gap"))

    def test_hoops_of_both_colours(self):
        told = {desk_at(floor).tell("hoops") for floor in samples.HOOPED}
        self.assertTrue(any(line.split()[0] != line.split()[1] for line in told))
        self.assertEqual("1 0", desk_with("floor 00+0/+000/000+/0+00").tell("hoops"))

    def test_turn(self):
        for floor in FLOORS:
            for i, j, by in turns_of(floor):
                desk = desk_at(floor)
                after = samples.stepped_table(floor, i, j, by)
                self.assert_tells(desk, (f"turn {i} {j} {by}", "turn 1"), ("show", written(after)), ("gap", "1"))
                self.assert_tells(desk, (f"turn {i} {j} {-by}", "turn 0"), ("show", written(floor)))
        self.assert_tells(Desk(), ("turn 1 1 -1", "turn 1"), ("turn 2 2 -1", "turn 2"), ("turn 1 2 -1", "turn 3"),
                          ("turn 2 1 -1", "turn 4"), ("home", "home 4"), ("turn 2 1 1", "turn 1"))

    def test_push(self):
        for floor in FLOORS[::2]:
            n = len(floor)
            can = turns_of(floor)
            for i, j, by in [(i, j, by) for i in (1, n // 2 + 1, 12) for j in range(1, 13) for by in (1, -1)]:
                desk = desk_at(floor)
                done = (i, j, by) in can
                after = samples.stepped_table(floor, i, j, by) if done else floor
                self.assert_tells(desk, (f"push {i} {j} {by}", "push" if done else "stays"), ("show", written(after)),
                                  ("gap", str(int(done))))

    def test_round(self):
        for floor in FLOORS[::3]:
            for many in (0, 1, 2, 5, 59, 60) if len(floor) < 6 else (1, 3):
                on, back = floor, floor
                for step in range(many):
                    on, back = round_of(on), round_back(back)
                self.assert_tells(desk_at(floor), (f"round {many}", bows(on)), ("show", written(on)),
                                  ("gap", str(gap_of(floor, on))))
                if many:
                    self.assert_tells(desk_at(floor), (f"round -{many}", bows(back)), ("show", written(back)))

    def test_mirror_cross_quarter(self):
        for floor in FLOORS:
            for line, function in (("mirror", mirrored_floor), ("cross", crossed_floor), ("quarter", quartered_floor)):
                after = function(floor)
                self.assert_tells(desk_at(floor), (line, bows(after)), ("show", written(after)),
                                  ("gap", str(gap_of(floor, after))), ("back", f"back {gap_of(floor, after)}"),
                                  ("show", written(floor)))

    def test_hold(self):
        desk = Desk()
        self.assert_tells(desk, ("hold 1 1 0 0", "hold 3"), ("hold 1 1 0 0", "hold 3"), ("hold 2 2 1 1", "hold 2"),
                          ("hold 1 2 1 1", "hold 1"), ("hold 2 1 1 7", "hold 0"), ("hold 0 0 -5 5", "hold 0"),
                          ("hold 3 3 3 3", "hold 0"), ("show", PLAIN), ("gap", "0"), ("near", "near 2"),
                          ("show", "0+0/+-+/0+0"), ("gap", "2"), ("near", "near 0"), ("free", "free 7"),
                          ("free", "free 0"), ("near", "near 0"))
        self.assert_tells(Desk(), ("hold 1 1 -999999 999999", "hold 4"), ("hold 1 1 0 999999", "hold 4"))

    def test_hold_and_near_on_all_kinds_of_floors(self):
        draw = random.Random(24)
        for floor in FLOORS:
            n = len(floor)
            desk, held = desk_at(floor), []
            target = samples.heights_by_words(samples.unit_floor(draw.sample(range(n), n)))
            for step in range(4):
                i, j = draw.randrange(n + 1), draw.randrange(n + 1)
                held.append((i, j, target[i][j] - draw.choice((0, 1)), target[i][j] + draw.choice((0, 0, 9))))
                line = "hold " + " ".join(map(str, held[-1]))
                self.assert_tells(desk, (line, f"hold {len(free_places(n, held))}"))
            near = nearest_floor(floor, held)
            self.assert_tells(desk, ("near", f"near {gap_of(floor, near)}"), ("show", written(near)),
                              ("gap", str(gap_of(floor, near))), ("near", "near 0"), ("free", "free 4"))

    def test_what_is_held_stays_behind_other_lines(self):
        desk = desk_with("hold 1 1 0 0", "turn 1 1 -1", "turn 1 1 1", "mirror", "round 1", "push 1 1 1", "home",
                         "quarter", "cross", "back", "near", "hold 2 2 1 2")
        self.assertEqual("free 2", desk.tell("free"))

    def test_home_and_back(self):
        desk = desk_with("turn 1 1 -1", "turn 2 2 -1")
        self.assert_tells(desk, ("gap", "2"), ("home", "home 2"), ("gap", "0"), ("show", "0+0/+-+/0+0"),
                          ("home", "home 0"), ("turn 1 2 -1", "turn 1"), ("back", "back 1"), ("show", "0+0/+-+/0+0"),
                          ("back", "back 0"), ("gap", "0"), ("mirror", "((()))"), ("quarter", "((()))"))


class UndoTest(DeskPromises, unittest.TestCase):
    def test_lines_that_change_nothing(self):
        desk = Desk()
        for line in ("push 1 1 1", "push 12 12 1", "round 0", "round 3", "round -60", "free", "size 3",
                     f"floor {PLAIN}", "cross", "home", "back", "near", "show", "dark", "light", "hoops", "gap"):
            desk.tell(line)
            self.assert_refused(NoUndo, desk.tell, "undo")
        desk.tell("turn 1 1 -1")
        for line in ("push 1 1 -1", "round 0", "free", "near", "show", "dark", "light", "hoops", "gap"):
            desk.tell(line)
            self.assertEqual(1, lines_left(desk))
        self.assert_tells(desk, ("undo", "undo 0"), ("show", PLAIN))
        self.assert_refused(NoUndo, desk.tell, "undo")

    def test_each_line_that_changes_something(self):
        lines = ("floor 0+00/00+0/+-0+/0+00", "round 1", "hold 2 2 0 1")
        before = seen_of(desk_with(*lines))
        turn = " ".join(map(str, turns_of(samples.drawn_floor(before[0]))[0]))
        for line in ("size 4", "size 3", "floor +", f"turn {turn}", f"push {turn}", "round 1", "round -7", "mirror",
                     "cross", "quarter", "hold 0 0 0 0", "hold 2 2 0 1", "free", "home", "back"):
            desk = desk_with(*lines)
            desk.tell(line)
            self.assertEqual(4, lines_left(desk), line)
            self.assert_tells(desk, ("undo", "undo 3"))
            self.assertEqual(before, seen_of(desk), line)

    def test_near_is_undone(self):
        desk = desk_with("hold 1 1 0 0")
        self.assert_tells(desk, ("near", "near 1"), ("show", "0+0/+00/00+"), ("undo", "undo 1"), ("show", PLAIN),
                          ("free", "free 1"), ("undo", "undo 1"), ("near", "near 1"))

    def test_home_and_held_are_there_again(self):
        desk = desk_with("turn 1 1 -1", "hold 1 1 0 0", "home", "turn 2 2 -1", "size 5", "hold 3 3 1 2", "free")
        self.assert_tells(desk, ("undo", "undo 6"), ("free", "free 1"), ("undo", "undo 6"), ("undo", "undo 5"),
                          ("free", "free 0"), ("undo", "undo 4"), ("gap", "1"), ("show", "0+0/+-+/0+0"),
                          ("undo", "undo 3"), ("gap", "0"), ("undo", "undo 2"), ("gap", "1"), ("undo", "undo 1"),
                          ("free", "free 0"), ("undo", "undo 0"), ("show", PLAIN), ("gap", "0"))
        self.assert_refused(NoUndo, desk.tell, "undo")

    def test_lines_behind_an_undo(self):
        desk = desk_with("turn 1 1 -1", "turn 2 2 -1")
        self.assert_tells(desk, ("undo", "undo 1"), ("mirror", bows(mirrored_floor([[0, 1, 0], [1, 0, 0], [0, 0, 1]]))),
                          ("undo", "undo 1"), ("show", "0+0/+00/00+"), ("undo", "undo 0"), ("show", PLAIN))
        self.assert_refused(NoUndo, desk.tell, "undo")
        self.assert_tells(desk, ("turn 2 2 -1", "turn 1"), ("undo", "undo 0"))

    def test_nothing_to_undo_at_a_new_desk(self):
        desk = Desk()
        for step in range(3):
            self.assert_line_refused(NoUndo, desk, "undo")

    def test_drawn_lines_undone_until_nothing_is_left(self):
        draw = random.Random(240)
        for run in range(6):
            desk, states = Desk(), [seen_of(Desk())]
            for step in range(50):
                line = drawn_line(draw, desk)
                try:
                    desk.tell(line)
                except (TooMany, NoTurn, NoHeld, HeldApart, OtherSize, NoPushes, NoUndo):
                    self.assertEqual(states[-1], seen_of(desk))
                else:
                    seen = seen_of(desk)
                    if line == "undo":
                        states.pop()
                        self.assertEqual(states[-1], seen)
                    elif seen[:-1] != states[-1][:-1]:
                        self.assertEqual(states[-1][-1] + 1, seen[-1], line)
                        states.append(seen)
                    else:
                        self.assertEqual(states[-1], seen, line)
            for left in reversed(range(len(states) - 1)):
                self.assertEqual(f"undo {left}", desk.tell("undo"))
                self.assertEqual(states[left], seen_of(desk))
            self.assert_refused(NoUndo, desk.tell, "undo")


def drawn_line(draw, desk):
    n = desk.tell("show").count("/") + 1
    place = f"{draw.randrange(n + 1)} {draw.randrange(n + 1)}"
    low = draw.randrange(n + 1)
    can = turns_of(samples.drawn_floor(desk.tell("show"))) or [(1, 1, 1)]
    turn = " ".join(map(str, draw.choice(can)))
    return draw.choice((f"size {draw.randrange(1, 6)}", "floor " + written(draw.choice(FLOORS[:20])), f"turn {turn}",
                        f"turn {turn}", f"push {turn}", f"push {place} 1", f"round {draw.randrange(-62, 62)}", "mirror",
                        "cross", "quarter", f"hold {place} {low} {low + draw.randrange(3)}", f"hold {place} 0 {low}",
                        f"hold {place} 0 {n}", "free", "near", "near", "home", "back", "undo", "undo"))


class NoLineTest(DeskPromises, unittest.TestCase):
    def setUp(self):
        self.desk = desk_with("turn 1 1 -1", "hold 1 1 0 0")
        self.before = seen_of(self.desk)

    def assert_no_line(self, line):
        self.assert_refused(NoLine, self.desk.tell, line)

    def tearDown(self):
        self.assertEqual(self.before, seen_of(self.desk))

    def test_other_words(self):
        for line in ("", " ", "  ", "\n", "x", "Show", "SHOW", "shows", "sho", "show.", "mirrored", "help", "quit", "1",
                     "0 0", "+", "()", "undo1", "size3", "size:3", "turns", "hoop", "hole 1 1 0 0", "-", "N", "F",
                     "laid_out", "tell", "line_show", "show,gap", "show/gap", "show\n", "\nshow", "show\ngap", "show\t",
                     "\tshow", "floor\n+", "x" * 2000, " " * 2000, "(" * 2000):
            self.assert_no_line(line)

    def test_words_too_many_or_too_few(self):
        for word in ALONE:
            for more in (" 1", " 0", " show", " +", " 1 1", " x"):
                self.assert_no_line(word + more)
        for word, many in WITH_NUMBERS.items():
            for count in range(7):
                if count != many:
                    self.assert_no_line(word + " 1" * count)
        for line in ("floor", "floor + +", "floor +0 0+", "floor + 1", "floor +0/0+ +", "floor 0 0 0"):
            self.assert_no_line(line)

    def test_blanks(self):
        for word in ALONE:
            for line in (" " + word, word + " ", "  " + word, word + "  ", f" {word} "):
                self.assert_no_line(line)
        for line in ["floor +0/0+", "floor +"] + [word + " 1" * many for word, many in WITH_NUMBERS.items()]:
            self.assert_no_line(" " + line)
            self.assert_no_line(line + " ")
            for at, sign in enumerate(line):
                if sign == " ":
                    self.assert_no_line(line[:at] + " " + line[at:])
                    self.assert_no_line(line[:at] + "\n" + line[at + 1:])
                    self.assert_no_line(line[:at] + "\t" + line[at + 1:])
        for line in ("floor ", "floor  ", " floor", "floor  +", "size ", "turn 1 1 ", "turn  1 1", "hold  1 1 0"):
            self.assert_no_line(line)

    def test_numbers_that_are_none(self):
        wrong = ("00", "01", "007", "-0", "-01", "-00", "+1", "+0", "--1", "1-", "-", "+", "1.0", "1.", ".5", "1e1",
                 "0x1", "1_0", "1,0", "one", "x", "N", "1000000", "-1000000", "0000001", "1234567", "9" * 30,
                 "9" * 2000, "1\n", "\n1", "True", "None", "1/1", "(1)", "\u0661", "\u00b2", "\uff11", "1\t", "-\n1", "1a")
        for word, many in WITH_NUMBERS.items():
            for at in range(many):
                for number in wrong:
                    parts = ["1"] * many
                    parts[at] = number
                    self.assert_no_line(" ".join([word] + parts))

    def test_ahead_of_other_refusals(self):
        for line in ("size 13 1", "size 013", "round 61 61", "turn 9 9", "turn 9 9 09", "push 0 0 00", "hold 9 9 0 00",
                     "hold 9 9 0", "hold -1 -1 1 -0", "undo 1", "floor x y"):
            self.assert_no_line(line)

    def test_other_kinds(self):
        for thing in samples.ANYTHING + [["show"], ("show",), [["size", 3]], ("size", 3), [samples.nested(list)]]:
            if not isinstance(thing, str):
                self.assert_no_line(thing)


class RefusalsTest(DeskPromises, unittest.TestCase):
    def each_desk(self):
        yield Desk()
        yield desk_with("turn 1 1 -1", "hold 1 1 0 0", "home", "turn 2 2 -1")
        yield desk_with("floor 00+0/+000/000+/0+00", "round 1", "hold 2 2 1 1", "hold 1 2 0 3")

    def test_too_many(self):
        for desk in self.each_desk():
            for line in ("size 0", "size 13", "size -1", "size -3", "size 999999", "size -999999", "round 61",
                         "round -61", "round 100", "round -999999", "round 999999"):
                self.assert_line_refused(TooMany, desk, line)

    def test_no_turn(self):
        for desk in self.each_desk():
            floor = samples.drawn_floor(desk.tell("show"))
            n = len(floor)
            can = turns_of(floor)
            for i, j, by in itertools.product((-1, 0, 1, 2, n), (1, 2, 3, n, 999999), (-1, 0, 1, 2)):
                if (i, j, by) not in can:
                    self.assert_line_refused(NoTurn, desk, f"turn {i} {j} {by}")

    def test_no_pushes(self):
        for desk in self.each_desk():
            for line in ("push 0 1 1", "push 1 0 1", "push 13 1 1", "push 1 13 1", "push 1 1 0", "push 1 1 2",
                         "push 1 1 -2", "push -1 1 1", "push 1 -1 1", "push 999999 1 1", "push 0 0 0"):
                self.assert_line_refused(NoPushes, desk, line)

    def test_no_text(self):
        for desk in self.each_desk():
            for word in ("x", "0", "-", "1", "++", "+/", "/+", "/", "+0/0+/", "/+0/0+", "+0//0+", "+0/0", "+0/+0",
                         "+00/0+0",
                         "+0\n0+", "+\n", "\n+", "+0/0+\n", "0-0/-+-/0-0", "10/01", "+0,0+", "plain", "()",
                         written(samples.unit_floor(list(range(13)))), "+" * 1990, "/" * 1990):
                self.assert_line_refused(NoText, desk, "floor " + word)

    def test_other_size_ahead_of_all_else(self):
        for desk in self.each_desk():
            n = len(desk.tell("show").split("/"))
            for line in (f"hold {n + 1} 0 0 0", f"hold 0 {n + 1} 0 0", f"hold {n + 1} -1 0 0", f"hold -1 {n + 1} 0 0",
                         f"hold {n + 1} {n + 1} 5 4", "hold 999999 1 9 -9", "hold -999999 999999 1 0"):
                self.assert_line_refused(OtherSize, desk, line)
            self.assertEqual("hold", desk.tell(f"hold {n} {n} {n} {n}").split()[0])

    def test_no_held(self):
        for desk in self.each_desk():
            for line in ("hold -1 0 0 0", "hold 0 -1 0 0", "hold -1 -1 0 0", "hold -999999 1 0 0", "hold 1 -1 5 4",
                         "hold -1 1 999999 -999999"):
                self.assert_line_refused(NoHeld, desk, line)

    def test_held_apart_with_its_fields(self):
        desk = Desk()
        for line, fields in (("hold 1 1 1 0", ((1, 1), (1, 1))), ("hold 1 1 2 3", ((1, 1), (0, 1))),
                             ("hold 1 1 999999 999999", ((1, 1), (0, 0))), ("hold 1 1 -5 -1", ((0, 0), (1, 1))),
                             ("hold 2 2 0 0", ((2, 3), (2, 2))), ("hold 0 2 1 1", ((0, 2), (0, 2)))):
            self.assert_line_refused(HeldApart, desk, line)
            self.assert_apart(fields, desk, line)
        desk.tell("hold 1 1 1 1")
        self.assert_apart(((1, 1), (1, 2)), desk, "hold 1 2 0 0")
        self.assert_line_refused(HeldApart, desk, "hold 1 2 0 0")
        self.assert_apart(((1, 1), (1, 1)), desk, "hold 1 1 0 0")
        self.assert_tells(desk, ("free", "free 1"), ("hold 1 2 0 0", "hold 1"))
        self.assert_apart(((1, 1), (1, 2)), desk, "hold 1 1 1 1")

    def test_size_and_floor_take_away_what_is_held(self):
        for line in ("size 3", f"floor {PLAIN}", "size 2"):
            desk = desk_with("hold 1 1 1 1")
            self.assert_line_refused(HeldApart, desk, "hold 1 1 0 0")
            desk.tell(line)
            self.assert_tells(desk, ("hold 1 1 0 0", f"hold {desk_with(line).tell('hold 1 1 0 0').split()[1]}"))

    def test_no_undo(self):
        for desk in self.each_desk():
            while lines_left(desk):
                desk.tell("undo")
            self.assert_line_refused(NoUndo, desk, "undo")


class SameAnswersTest(unittest.TestCase):
    def test_the_same_is_told_whenever_it_is_asked(self):
        draw = random.Random(3)
        lines, desk = [], Desk()
        while len(lines) < 60:
            line = drawn_line(draw, desk)
            try:
                lines.append((line, desk.tell(line)))
            except (TooMany, NoTurn, NoHeld, HeldApart, OtherSize, NoPushes, NoUndo):
                pass
        again = Desk()
        self.assertEqual([answer for line, answer in lines], [again.tell(line) for line, answer in lines])
        self.assertEqual(seen_of(desk), seen_of(desk))
        self.assertEqual(seen_of(desk), seen_of(again))


if __name__ == "__main__":
    unittest.main()
