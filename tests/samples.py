"""Good and bad things for the tests, made without the functions that are tested."""

import copy
import itertools

SIZES = range(1, 13)
DEEP = 5000


def nested(kind, depth=DEEP):
    """A list or tuple that lies so deep within itself."""
    thing = kind()
    for step in range(depth):
        thing = kind([thing])
    return thing


def line_by_words(line):
    """Whether point 5 allows the numbers as a row or column, read word by word."""
    signs = [number for number in line if number != 0]
    return len(signs) % 2 == 1 and signs == [1, -1] * (len(signs) // 2) + [1]


def floor_by_words(rows):
    """Whether a square table of whole numbers is a floor, read word by word."""
    return all(line_by_words(line) for line in rows) and all(line_by_words(line) for line in zip(*rows))


def height_by_words(floor, i, j):
    """The sum of the numbers in the floor's first i rows and first j columns."""
    return sum(floor[row][column] for row in range(i) for column in range(j))


def heights_by_words(floor):
    n = len(floor)
    return [[height_by_words(floor, i, j) for j in range(n + 1)] for i in range(n + 1)]


def heights_by_rules(table):
    """Whether a square table of whole numbers is heights, by what point 6 says of rim and neighbours."""
    n = len(table) - 1
    rim = all(table[k][0] == 0 and table[0][k] == 0 and table[k][n] == k and table[n][k] == k for k in range(n + 1))
    level = all(row[j + 1] - row[j] in (0, 1) for row in table for j in range(n))
    upright = all(table[i + 1][j] - table[i][j] in (0, 1) for i in range(n) for j in range(n + 1))
    return rim and level and upright


def floors_by_words(n):
    """All floors of size n in rising order, found by trying all tables."""
    lines = [list(line) for line in itertools.product((-1, 0, 1), repeat=n) if line_by_words(line)]
    tables = itertools.product(lines, repeat=n)
    return sorted([list(row) for row in rows] for rows in tables if floor_by_words(rows))


def floors_by_rows(n):
    """All floors of size n in rising order, row by row, each row such that no column's sum leaves 0 and 1."""
    lines = sorted(line for line in itertools.product((-1, 0, 1), repeat=n) if line_by_words(line))
    begun = [([], (0,) * n)]
    for step in range(n):
        begun = [(rows + [line], tuple(map(sum, zip(sums, line)))) for rows, sums in begun for line in lines
                 if all(a + b in (0, 1) for a, b in zip(sums, line))]
    return [[list(line) for line in rows] for rows, sums in begun]


def pattern_by_signs(signs):
    """The pattern written by ( and ) for each end."""
    partners, begun = [None] * len(signs), []
    for end, sign in enumerate(signs):
        if sign == "(":
            begun.append(end)
        else:
            partners[end] = begun.pop()
            partners[partners[end]] = end
    return partners


def closes(signs):
    """Whether the brackets match."""
    depths = list(itertools.accumulate(1 if sign == "(" else -1 for sign in signs))
    return min(depths) >= 0 and depths[-1] == 0


def patterns_by_words(n):
    """All patterns of size n in rising order, found by trying all signs."""
    words = itertools.product("()", repeat=2 * n)
    return sorted(pattern_by_signs(word) for word in words if closes(word))


def pattern_by_words(partners):
    """Whether a list of whole numbers is a pattern of a size from 1 on, read word by word."""
    ends = range(len(partners))
    if not partners or not all(partner in ends for partner in partners):
        return False
    if any(partners[end] == end or partners[partners[end]] != end for end in ends):
        return False
    return not any(a < b < partners[a] < partners[b] for a in ends for b in ends)


def unit_floor(columns):
    """The floor with 1 in each row at the column told for it."""
    return [[int(column == at) for column in range(len(columns))] for at in columns]


def count_minus_ones(rows):
    return sum(row.count(-1) for row in rows)


def drawn_floor(text):
    """The floor drawn by + for 1, 0 for 0, - for -1, with / between rows."""
    return [["-0+".index(sign) - 1 for sign in line] for line in text.split("/")]


def stepped_table(floor, i, j, by):
    """The table whose height in row i, column j is greater by by, all other heights being the floor's."""
    rows = [list(row) for row in floor]
    rows[i - 1][j - 1] += by
    rows[i - 1][j] -= by
    rows[i][j - 1] -= by
    rows[i][j] += by
    return rows


def broken_floor(n, seed):
    """A floor of size n with many -1, the best on a walk of steps that each add 1 -1 / -1 1 somewhere."""
    rows = unit_floor([(k * 5 + seed) % n for k in range(n)] if n % 5 else [(k + seed) % n for k in range(n)])
    best = rows
    state = seed + 1
    for step in range(40 * (n - 1) * (n - 1)):
        state = (state * 1103515245 + 12345) % (1 << 31)
        i, j, sign = (state >> 8) % (n - 1) + 1, (state >> 16) % (n - 1) + 1, (state >> 24) % 2 * 2 - 1
        tried = stepped_table(rows, i, j, sign)
        if floor_by_words(tried):
            rows = tried
            best = max(best, rows, key=count_minus_ones)
    return best


def diamond_floor(n):
    """The floor of an odd size with as many -1 as can be."""
    half = n // 2
    return [[(-1) ** (i + j + half) if abs(i - half) + abs(j - half) <= half else 0 for j in range(n)]
            for i in range(n)]


BROKEN = {n: [broken_floor(n, seed) for seed in range(3)] for n in SIZES}
GOOD_FLOORS = [floor for n in SIZES for floor in BROKEN[n]] + [diamond_floor(n) for n in SIZES if n % 2]
GOOD_FLOORS += [unit_floor(list(range(n))) for n in SIZES]
GOOD_FLOORS += [floor for n in (1, 2, 3, 4) for floor in floors_by_words(n)]

# Floors with many dark hoops, some of them around others, and with light ones.
HOOPED = [drawn_floor(text) for text in (
    "00+0/+000/000+/0+00", "0+00/000+/+000/00+0", "00+000/+00000/0000+0/000+00/0+0-0+/000+00",
    "0000+00/0+00000/000+-+0/+000000/000000+/00+0000/0000+00",
    "0000+000/00+00000/000000+0/+0000000/00000+-+/000+0000/0+0-00+0/000+0000",
    "00+00000/+0-00+00/0000+000/00+00-+0/0+-00+00/000+0000/00+00-0+/00000+00",
    "0000+0000/000+-+000/0+0-+-0+0/000+-0+00/00000+000/+-+0000-+/0000+0000/0+00-00+0/0000+0000",
    "0000+00000/00+0000000/000000+000/000+-+-00+/0+-0000+00/00+0000-+0/0000+-+000/+0-00+0000/00+00-0+00/00000+0000",
    "000000+00000/000+00000000/00000000+000/0+0000000000/0000000+-0+0/+-+000000000/00000000000+/0+0-+0000000/"
    "000000000+00/00000+000000/000+0-00+000/00000+000000",
    "00+000000000/00000+000000/0+-0+-00+000/00+000000000/+0-00+00-+00/000+0-0+0000/00+0-0+-+000/0000000+0-0+/"
    "00000+0-0+00/0000+0-+-0+0/000000+-+000/0000000+0000")]
GOOD_FLOORS += HOOPED

# One that has the same list at two places, as a caller may well build it.
SHARED_ROW = [0, 1, 0]
SHARED_FLOOR = [SHARED_ROW, [1, -1, 1], SHARED_ROW]

SINGLE_THINGS = [None, True, False, 0, 1, -1, 2, 12, 13, 10 ** 29, -10 ** 29, "", "+", "0", "1", "floor", "x" * 2000,
                 (), (1,), [], [1], [0], [None], [True], [False], [""], ["+"], "[[1]]", "+0\n0+"]
DEEP_THINGS = [nested(list), nested(tuple), [nested(list)], [[nested(list)]], [[nested(tuple)]], (nested(list),),
               [[1, 0], [0, nested(list)]], [[1, 0], nested(list)], [nested(tuple), [0, 1]],
               [[0, 0], [0, nested(tuple)]]]
WRONG_NUMBERS = [True, False, "", "0", "1", None, (), (0,), (1,), [], [0], [1], 2, -2, 3, 13, 14, 10 ** 29, -10 ** 29,
                 nested(list), nested(tuple)]
ANYTHING = SINGLE_THINGS + DEEP_THINGS
NO_FLOORS = ANYTHING + [unit_floor(list(range(13))), [[True]], [[1, 0], [0, True]], ([1],), [(1,)], [[0, 0], [0, 1]],
                        [[1, 0]], [[2]]]


def no_numbers_between(least, greatest):
    """Things of all kinds but for the whole numbers from least to greatest."""
    edges = [least - 2, least - 1, greatest + 1, greatest + 2, -greatest, str(least), str(greatest), (least,),
             [greatest], [least], [[least]]]
    return [thing for thing in ANYTHING + edges if type(thing) is not int or not least <= thing <= greatest]


def is_same_number(one, other):
    return type(one) is int and type(other) is int and one == other


def with_number(table, i, j, number):
    """A new table with another number in row i, column j."""
    rows = [list(row) for row in table]
    rows[i][j] = number
    return rows


def bent_shapes(table):
    """The table with rows left out, doubled, longer, shorter, or of another kind, none of them square."""
    n = len(table)
    yield tuple(table)
    yield tuple(tuple(row) for row in table)
    yield [tuple(row) for row in table]
    yield {at: row for at, row in enumerate(table)}
    yield [table]
    yield table + [[0] * n]
    yield [[0] * n] + table
    yield [row + [0] for row in table]
    for at in range(n):
        for row in (tuple(table[at]), table[at] + [0], [0] + table[at], table[at][:-1], table[at][1:], [table[at]],
                    "".join(str(number) for number in table[at]), None, True, 0, 1, [], ()):
            yield table[:at] + [row] + table[at + 1:]
        yield table[:at] + table[at + 1:]
        yield table[:at] + [table[at]] + table[at:]
        yield table[:at] + [[row for row in table[at]]] + table[at:]


def bent_numbers(table):
    """The table with one number exchanged for something that no table has there."""
    for i, row in enumerate(table):
        for j, number in enumerate(row):
            for other in WRONG_NUMBERS + [-1, 0, 1, number - 1, number + 1]:
                if not is_same_number(other, number):
                    yield with_number(table, i, j, other)


def inner_lists(answer):
    """The answer's lists, itself and those within it, however deep."""
    found = []
    waiting = [answer]
    while waiting:
        thing = waiting.pop()
        if isinstance(thing, list):
            found.append(thing)
        if isinstance(thing, (list, tuple)):
            waiting.extend(thing)
    return found


def spoil(answer):
    """Change every list of the answer."""
    for rows in inner_lists(answer):
        rows.append("spoiled")
        rows[0] = "spoiled"


class Promises:
    """What points 2 and 4 ask of every function, for the tests to mix in."""

    def assert_own(self, function, *given):
        """What it tells is new throughout, stays as it is, and is told again; what is handed in stays as it was."""
        before = copy.deepcopy(given)
        answer = function(*given)
        self.assertEqual(before, given)
        told = copy.deepcopy(answer)
        lists = inner_lists(answer)
        self.assertEqual(len(lists), len({id(rows) for rows in lists}))
        self.assertFalse({id(rows) for rows in lists} & {id(rows) for part in given for rows in inner_lists(part)})
        again = function(*given)
        self.assertFalse({id(rows) for rows in lists} & {id(rows) for rows in inner_lists(again)})
        spoil(again)
        self.assertEqual(before, given)
        self.assertEqual(told, answer)
        self.assertEqual(told, function(*given))
        changed = copy.deepcopy(before)
        kept = function(*changed)
        for part in changed:
            spoil(part)
        self.assertEqual(told, kept)
        self.assertEqual(told, function(*before))

    def assert_refused(self, refusal, function, *given):
        """It refuses with just this class."""
        try:
            function(*given)
        except Exception as error:
            self.assertIs(refusal, type(error))
        else:
            self.fail(f"{function.__name__} refused nothing")
