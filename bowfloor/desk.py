"""The desk: it has a floor, a home and what is held, takes lines and answers each with a line."""

from bowfloor.errors import NoLine, NoUndo, OtherSize
from bowfloor.floors import crossed_floor, mirrored_floor, plain_floor, quartered_floor
from bowfloor.held import free_places, nearest_floor
from bowfloor.pushes import pushed_floor
from bowfloor.rounds import refuse_no_rounds, round_back, rounds_of
from bowfloor.texts import read_floor, shown_floor, shown_pattern
from bowfloor.turns import floor_after, gap_of
from bowfloor.ways import DARK, LIGHT, bows_of, hoops_of

FIRST_SIZE = 3
MOST_FIGURES = 6
FIGURES = "0123456789"
UNDO = "undo"


def laid_out(floor):
    """The state (floor, home, held) that begins with a floor."""
    return floor, floor, []


def bows_shown(floor, colour):
    """The floor's bows of the colour, written."""
    return shown_pattern(bows_of(floor, colour))


def by_its_bows(floor, home, held):
    """A state, and its floor's dark bows as the answer."""
    return (floor, home, held), bows_shown(floor, DARK)


# Each of the following takes a state and what stands behind the line's first word; it tells the state that the line
# leads to and the answer. None changes the state that it takes: the desk keeps it for undo.


def line_size(state, parts):
    """Lay out the plain floor of a size."""
    return laid_out(plain_floor(parts[0])), f"size {parts[0]}"


def line_floor(state, parts):
    """Lay out a written floor."""
    # A line end has no place in a line, so it must not be read as one of those that / stands for.
    floor = read_floor(parts[0].replace("\n", " ").replace("/", "\n"))
    return laid_out(floor), f"floor {len(floor)}"


def line_show(state, parts):
    """Answer with the floor, written."""
    floor, home, held = state
    return state, shown_floor(floor).replace("\n", "/")


def line_dark(state, parts):
    """Answer with the dark bows."""
    floor, home, held = state
    return state, bows_shown(floor, DARK)


def line_light(state, parts):
    """Answer with the light bows."""
    floor, home, held = state
    return state, bows_shown(floor, LIGHT)


def line_hoops(state, parts):
    """Answer with how many dark and how many light hoops there are."""
    floor, home, held = state
    return state, f"{len(hoops_of(floor, DARK))} {len(hoops_of(floor, LIGHT))}"


def line_gap(state, parts):
    """Answer with the gap from home."""
    floor, home, held = state
    return state, str(gap_of(home, floor))


def line_turn(state, parts):
    """Do a turn."""
    floor, home, held = state
    after = floor_after(floor, tuple(parts))
    return (after, home, held), f"turn {gap_of(home, after)}"


def line_push(state, parts):
    """Do a turn where it can be done."""
    floor, home, held = state
    after = pushed_floor(floor, [tuple(parts)])
    answer = "stays" if after == floor else "push"
    return (after, home, held), answer


def line_round(state, parts):
    """Go so many rounds on, or back where the number is below 0."""
    floor, home, held = state
    after = rounds_behind(floor, -parts[0]) if parts[0] < 0 else rounds_of(floor, parts[0])[-1]
    return by_its_bows(after, home, held)


def rounds_behind(floor, many):
    """The floor so many rounds back."""
    refuse_no_rounds(many)
    for count in range(many):
        floor = round_back(floor)
    return floor


def line_mirror(state, parts):
    """Mirror the floor."""
    floor, home, held = state
    return by_its_bows(mirrored_floor(floor), home, held)


def line_cross(state, parts):
    """Exchange the floor's rows and columns."""
    floor, home, held = state
    return by_its_bows(crossed_floor(floor), home, held)


def line_quarter(state, parts):
    """Turn the floor by a quarter."""
    floor, home, held = state
    return by_its_bows(quartered_floor(floor), home, held)


def line_hold(state, parts):
    """Hold one more place."""
    floor, home, held = state
    if max(parts[0], parts[1]) > len(floor):
        raise OtherSize("the place lies outside of the floor")
    more = held + [tuple(parts)]
    return (floor, home, more), f"hold {len(free_places(len(floor), more))}"


def line_free(state, parts):
    """Hold nothing."""
    floor, home, held = state
    return (floor, home, []), f"free {len(held)}"


def line_near(state, parts):
    """Go to the nearest floor that keeps what is held."""
    floor, home, held = state
    after = nearest_floor(floor, held)
    return (after, home, held), f"near {gap_of(floor, after)}"


def line_home(state, parts):
    """Make the floor home."""
    floor, home, held = state
    return (floor, floor, held), f"home {gap_of(home, floor)}"


def line_back(state, parts):
    """Go back home."""
    floor, home, held = state
    return (home, home, held), f"back {gap_of(home, floor)}"


ACTIONS = {
    "size": line_size, "floor": line_floor, "show": line_show, "dark": line_dark, "light": line_light,
    "hoops": line_hoops, "gap": line_gap, "turn": line_turn, "push": line_push, "round": line_round,
    "mirror": line_mirror, "cross": line_cross, "quarter": line_quarter, "hold": line_hold, "free": line_free,
    "near": line_near, "home": line_home, "back": line_back,
}
# How many words stand behind the first one, where there are any.
PARTS_BEHIND = {"size": 1, "floor": 1, "turn": 3, "push": 3, "round": 1, "hold": 4}


def read_line(line):
    """The line's first word and the list of what stands behind it: numbers, but for a written floor."""
    words = line.split(" ") if isinstance(line, str) else [""]
    word = words[0]
    parts = words[1:]
    # Blanks at an end, or two side by side, leave an empty word there.
    if "" in words or not is_first_word(word) or len(parts) != PARTS_BEHIND.get(word, 0):
        raise NoLine("this line has none of the forms")
    if word == "floor":
        return word, parts
    if not all([is_written_number(part) for part in parts]):
        raise NoLine("a number is not written as it must be")
    return word, [int(part) for part in parts]


def is_first_word(word):
    """Whether a line may begin with the word."""
    return word == UNDO or word in ACTIONS


def is_written_number(text):
    """Whether the text is a number of few figures, without needless noughts, with - ahead just where it is below 0."""
    figures = text[1:] if text.startswith("-") else text
    if not 1 <= len(figures) <= MOST_FIGURES or not all([figure in FIGURES for figure in figures]):
        return False
    return text == "0" or figures[0] != "0"


class Desk:
    """A desk begins with the plain floor of size 3 as floor and home, and nothing held."""

    def __init__(self):
        self.state = laid_out(plain_floor(FIRST_SIZE))
        self.past = []

    def tell(self, line):
        """The answer to the line."""
        word, parts = read_line(line)
        if word == UNDO:
            return self.undone()
        action = ACTIONS[word]
        state, answer = action(self.state, parts)
        if state != self.state:
            self.past.append(self.state)
            self.state = state
        return answer

    def undone(self):
        """Go back to ahead of the last line that changed something; the answer to undo."""
        if not self.past:
            raise NoUndo("no line is left that could be undone")
        self.state = self.past.pop()
        return f"{UNDO} {len(self.past)}"
