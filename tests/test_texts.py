import copy
import unittest

from bowfloor.errors import NoFloor, NoPattern, NoText
from bowfloor.texts import read_floor, read_pattern, shown_floor, shown_pattern
from tests import samples

FLOORS = samples.GOOD_FLOORS + [samples.SHARED_FLOOR]
PATTERNS = [pattern for n in (1, 2, 3, 4, 5) for pattern in samples.patterns_by_words(n)]
PATTERNS += [list(range(2 * n))[::-1] for n in samples.SIZES]
PATTERNS += [[end ^ 1 for end in range(2 * n)] for n in samples.SIZES]
PATTERNS += [samples.pattern_by_signs(signs) for signs in (
    "(()())((()))()()", "()((((()()))))(()())", "(((())))(()(()))((()()))", "((((((((((()))))))))))()")]
# Every sign that a text may have, and some that it may not.
SIGNS = "\n" + "".join(map(chr, range(32, 127))) + "\t\r\x0b\x0c\x00\u2212\uff0b\u0660\u2028"
NO_PATTERNS = samples.ANYTHING + [[2, 3, 0, 1], [0, 1], [True, 0], [1, False], (1, 0), "()", [1, 0, 2],
                                  list(range(26))[::-1]]


def floor_text(floor):
    """Point 23, word by word."""
    rows = []
    for row in floor:
        line = ""
        for number in row:
            line += "+" if number == 1 else "-" if number == -1 else "0"
        rows.append(line)
    text = rows[0]
    for line in rows[1:]:
        text += "\n" + line
    return text


def bent_texts(text):
    """The text with one sign exchanged, left out, doubled or put in."""
    for at in range(len(text) + 1):
        for sign in SIGNS:
            yield text[:at] + sign + text[at:]
            if text[at:at + 1] not in ("", sign):
                yield text[:at] + sign + text[at + 1:]
    for at in range(len(text)):
        yield text[:at] + text[at + 1:]


class ShownFloorTest(samples.Promises, unittest.TestCase):
    def test_written_out(self):
        self.assertEqual("+", shown_floor([[1]]))
        self.assertEqual("+0\n0+", shown_floor([[1, 0], [0, 1]]))
        self.assertEqual("0+0\n+-+\n0+0", shown_floor(samples.SHARED_FLOOR))

    def test_there_and_back(self):
        for floor in FLOORS:
            text = floor_text(floor)
            self.assertEqual(text, shown_floor(floor))
            self.assertEqual(floor, read_floor(text))
            self.assertEqual({int}, {type(number) for row in read_floor(text) for number in row})

    def test_what_is_told_is_the_askers_own(self):
        for floor in samples.GOOD_FLOORS:
            self.assert_own(shown_floor, floor)
            self.assert_own(read_floor, floor_text(floor))
        told = read_floor("0+0\n+-+\n0+0")
        told[0][0] = 5
        self.assertEqual([[5, 1, 0], [1, -1, 1], [0, 1, 0]], told)

    def test_what_is_no_floor(self):
        for thing in samples.NO_FLOORS:
            self.assert_refused(NoFloor, shown_floor, thing)


class ShownPatternTest(samples.Promises, unittest.TestCase):
    def test_written_out(self):
        self.assertEqual("()", shown_pattern([1, 0]))
        self.assertEqual("()()", shown_pattern([1, 0, 3, 2]))
        self.assertEqual("(())", shown_pattern([3, 2, 1, 0]))
        self.assertEqual("(()())", shown_pattern([5, 2, 1, 4, 3, 0]))

    def test_there_and_back(self):
        for pattern in PATTERNS:
            signs = ["(" if partner > end else ")" for end, partner in enumerate(pattern)]
            self.assertEqual("".join(signs), shown_pattern(pattern))
            self.assertEqual(pattern, read_pattern("".join(signs)))
            self.assertEqual({int}, {type(partner) for partner in read_pattern("".join(signs))})

    def test_what_is_told_is_the_askers_own(self):
        for pattern in PATTERNS:
            self.assert_own(shown_pattern, pattern)
            self.assert_own(read_pattern, shown_pattern(pattern))

    def test_what_is_no_pattern(self):
        for thing in NO_PATTERNS:
            self.assert_refused(NoPattern, shown_pattern, thing)


class ReadFloorTest(samples.Promises, unittest.TestCase):
    def assert_read_by_words(self, text):
        """It reads the text just where it writes a floor."""
        lines = text.split("\n")
        square = 1 <= len(lines) <= 12 and all(len(line) == len(lines) for line in lines)
        signs = set(text) <= set("+0-\n")
        if square and signs and samples.floor_by_words([samples.drawn_floor(line)[0] for line in lines]):
            self.assertEqual(text, floor_text(read_floor(text)))
            return True
        self.assert_refused(NoText, read_floor, text)
        return False

    def test_one_sign_bent(self):
        for floor in [samples.BROKEN[n][0] for n in (1, 2, 3, 4, 5, 6, 12)] + [samples.diamond_floor(5)]:
            for bent in bent_texts(floor_text(floor)):
                self.assertFalse(self.assert_read_by_words(bent))

    def test_written_out(self):
        for text in ("", "\n", "+\n", "\n+", " +", "+ ", "0", "-", "1", "++", "+0\n0+\n", "\n+0\n0+", "+0\n\n0+",
                     "+0 0+",
                     "+0/0+", "+0\r\n0+", "+0\n0", "+0\n0+0", "+0\n+0", "0+\n+0 ", "+00\n0+0", "+0\n0+\n00", "o+\n+o",
                     "+", "+0\n0+", "+-+\n0+0\n0+0", "0+0\n+-+\n0+0", "10\n01", "[[1]]", "()", "+0,0+",
                     "0-0\n-+-\n0-0"):
            self.assert_read_by_words(text)

    def test_sizes(self):
        for n in (13, 14, 40):
            self.assert_refused(NoText, read_floor, floor_text(samples.unit_floor(list(range(n)))))
        self.assertEqual(12, len(read_floor(floor_text(samples.BROKEN[12][0]))))
        for text in ("+" * 2000, "0" * 2000, "\n" * 2000, "+\n" * 1000, "(" * 2000, " " * 2000):
            self.assert_refused(NoText, read_floor, text)

    def test_rows_of_unlike_lengths(self):
        for n in (2, 3, 5, 12):
            lines = floor_text(samples.BROKEN[n][1]).split("\n")
            for at in range(n):
                for line in (lines[at] + "0", "0" + lines[at], lines[at][:-1], lines[at][1:], ""):
                    self.assert_refused(NoText, read_floor, "\n".join(lines[:at] + [line] + lines[at + 1:]))
                self.assert_refused(NoText, read_floor, "\n".join(lines[:at] + lines[at + 1:]))
                self.assert_refused(NoText, read_floor, "\n".join(lines[:at] + [lines[at]] + lines[at:]))
            self.assert_refused(NoText, read_floor, "".join(lines))

    def test_other_kinds(self):
        for thing in samples.ANYTHING + samples.GOOD_FLOORS[:20] + [["+"], ("+",), [["+"]], [["+", "0"], ["0", "+"]],
                                                                    ["+0", "0+"], ("+0", "0+"), [[1]]]:
            if thing not in ("+", "+0\n0+"):
                self.assert_refused(NoText, read_floor, thing)


class ReadPatternTest(samples.Promises, unittest.TestCase):
    def test_one_sign_bent(self):
        for pattern in PATTERNS[:24] + PATTERNS[-4:]:
            for bent in bent_texts(shown_pattern(pattern)):
                self.assert_refused(NoText, read_pattern, bent)

    def test_all_small_texts(self):
        good = {"".join("(" if partner > end else ")" for end, partner in enumerate(pattern)): pattern
                for n in (1, 2, 3) for pattern in samples.patterns_by_words(n)}
        texts = [""]
        for text in texts:
            if text in good:
                self.assertEqual(good[text], read_pattern(text))
            else:
                self.assert_refused(NoText, read_pattern, text)
            if len(text) < 7:
                texts += [text + "(", text + ")"]

    def test_written_out(self):
        for text in ("", ")(", "(", ")", "(()", "())", "()\n", "\n()", " ()", "() ", "( )", "()\n()", "[]", "<>", "{}",
                     "(]",
                     "(x)", "()x()", "())(", ")()(", "10", "1 0", "[1, 0]", "+", "(.)", "()/()", "(())\n\n()"):
            self.assert_refused(NoText, read_pattern, text)

    def test_sizes(self):
        for n in (13, 14, 500, 1000, 3000):
            for text in ("(" * n + ")" * n, "()" * n, "(" * n, ")" * n, ")" * n + "(" * n):
                self.assert_refused(NoText, read_pattern, text)
        self.assertEqual(list(range(24))[::-1], read_pattern("(" * 12 + ")" * 12))

    def test_other_kinds(self):
        wrong = [["()"], ("()",), ["(", ")"], ("(", ")"), [["("], [")"]], [1, 0]]
        for thing in samples.ANYTHING + PATTERNS[:20] + wrong:
            self.assert_refused(NoText, read_pattern, thing)


class RefusalsTest(samples.Promises, unittest.TestCase):
    def test_a_refusal_changes_nothing(self):
        for refusal, function, thing in ((NoFloor, shown_floor, [[1, 0], [0, True]]), (NoText, read_floor, ["+"]),
                                         (NoPattern, shown_pattern, [1, False]), (NoText, read_pattern, ["(", ")"])):
            before = copy.deepcopy(thing)
            self.assert_refused(refusal, function, thing)
            self.assertEqual(repr(before), repr(thing))


if __name__ == "__main__":
    unittest.main()
