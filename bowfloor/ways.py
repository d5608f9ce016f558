"""Ways: the dark and light stretches between crossings, the bows and hoops that they make."""

from bowfloor.errors import NoColour, NoEnd
from bowfloor.floors import GREATEST_SIZE, refuse_no_floor, refuse_no_size
from bowfloor.tables import is_number_between

DARK = "dark"
LIGHT = "light"
LEVEL = 0
UPRIGHT = 1


def refuse_no_colour(thing):
    """Raise NoColour if it is no colour."""
    if thing not in (DARK, LIGHT):
        raise NoColour("this is no colour")


def stretches_of(floor, colour):
    """The rising list of the floor's stretches of the colour."""
    refuse_no_floor(floor)
    refuse_no_colour(colour)
    return [stretch for stretch in all_stretches(len(floor)) if colour_of(floor, stretch) == colour]


def all_stretches(n):
    """The rising list of all stretches of a floor of size n."""
    level = [(LEVEL, i, j) for i in range(n) for j in range(n + 1)]
    upright = [(UPRIGHT, i, j) for i in range(n + 1) for j in range(n)]
    return level + upright


def colour_of(floor, stretch):
    """The colour of the stretch."""
    kind, i, j = stretch
    rest = 0 if kind == LEVEL else 1
    return DARK if (i + j + sum_ahead(floor, stretch)) % 2 == rest else LIGHT


def sum_ahead(floor, stretch):
    """The sum of the row's numbers ahead of a level stretch, of the column's above an upright one."""
    kind, i, j = stretch
    return sum(floor[i][:j]) if kind == LEVEL else sum([row[j] for row in floor[:i]])


def rim_ends(n, colour):
    """The list of the stretches at the ends of the colour, around a floor of size n."""
    refuse_no_size(n, GREATEST_SIZE)
    refuse_no_colour(colour)
    # Around every floor the rim's stretches are dark and light by turns, so none has to be at hand.
    return rim_of(n)[0::2] if colour == DARK else rim_of(n)[1::2]


def rim_of(n):
    """The stretches of the rim, in the order in which the ends are counted."""
    top = [(UPRIGHT, 0, j) for j in range(n)]
    right = [(LEVEL, i, n) for i in range(n)]
    bottom = [(UPRIGHT, n, j) for j in range(n - 1, -1, -1)]
    left = [(LEVEL, i, 0) for i in range(n - 1, 0, -1)]
    return [(LEVEL, 0, 0)] + top + right + bottom + left


def bows_of(floor, colour):
    """The list that has for each end of the colour the end to which its way comes."""
    links = links_of(floor, colour)
    ends = rim_ends(len(floor), colour)
    return [ends.index(end_behind(links, stretch)) for stretch in ends]


def way_of(floor, colour, end):
    """The list of the crossings through which the way from the end goes."""
    links = links_of(floor, colour)
    ends = rim_ends(len(floor), colour)
    if not is_number_between(end, 0, len(ends) - 1):
        raise NoEnd("this is no number of an end")
    return [crossing for crossing, stretch in steps_from(links, ends[end])]


def hoops_of(floor, colour):
    """The rising list of the hoops of the colour, each a list of its crossings."""
    links = links_of(floor, colour)
    seen = set()
    for end in rim_ends(len(floor), colour):
        for crossing, stretch in steps_from(links, end):
            seen.add(crossing)
    hoops = []
    # In rising order the first crossing of a hoop that is met is its least one.
    for least in sorted(links):
        if least not in seen:
            hoop = hoop_from(links, least)
            hoops.append(hoop)
            for crossing in hoop:
                seen.add(crossing)
    return hoops


def links_of(floor, colour):
    """For each crossing of the floor the list of its two stretches of the colour."""
    links = {}
    for stretch in stretches_of(floor, colour):
        for crossing in sides_of(stretch):
            if is_within(crossing, len(floor)):
                links.setdefault(crossing, []).append(stretch)
    return links


def sides_of(stretch):
    """The two places that the stretch lies between; at the rim one of them is outside of the floor."""
    kind, i, j = stretch
    return ((i, j - 1), (i, j)) if kind == LEVEL else ((i - 1, j), (i, j))


def is_within(place, n):
    """Whether the place is a crossing of a floor of size n."""
    i, j = place
    return 0 <= i < n and 0 <= j < n


def other_of(pair, one):
    """The one of a pair that is not this one."""
    first, second = pair
    return second if first == one else first


def steps_from(links, end):
    """The list of tuples (crossing, stretch by which it is left) of the way from an end's stretch."""
    inside = [place for place in sides_of(end) if place in links]
    crossing = inside[0]
    stretch = end
    steps = []
    while crossing in links:
        stretch = other_of(links[crossing], stretch)
        steps.append((crossing, stretch))
        crossing = other_of(sides_of(stretch), crossing)
    return steps


def end_behind(links, end):
    """The stretch of the rim to which the way from an end's stretch comes."""
    crossing, stretch = steps_from(links, end)[-1]
    return stretch


def hoop_from(links, least):
    """The hoop through its least crossing, from there on to the lesser one of its two neighbours."""
    crossing, stretch = min([(other_of(sides_of(link), least), link) for link in links[least]])
    hoop = [least]
    while crossing != least:
        hoop.append(crossing)
        stretch = other_of(links[crossing], stretch)
        crossing = other_of(sides_of(stretch), crossing)
    return hoop
