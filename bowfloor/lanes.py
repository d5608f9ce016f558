"""Lanes: a floor as paths from its lower rim to its right one, which touch but never cross."""

from bowfloor.errors import NoLanes
from bowfloor.floors import GREATEST_SIZE, refuse_no_floor
from bowfloor.tables import is_number_tuple
from bowfloor.ways import LEVEL, UPRIGHT, is_within, sum_ahead


def is_lanes(thing):
    """Whether it is the list of the lanes of a floor; of anything."""
    if not isinstance(thing, list) or not 1 <= len(thing) <= GREATEST_SIZE:
        return False
    if not all([is_lane(part, number, len(thing)) for number, part in enumerate(thing)]):
        return False
    return all([can_pass(found) for found in passings_of(thing).values()])


def can_pass(found):
    """Whether lanes may pass through one crossing so: one alone, or two that touch."""
    # Lanes that go by one stretch come or go on alike at its crossings, so they are told here too.
    return len(found) == 1 or sorted(found) == [(LEVEL, UPRIGHT), (UPRIGHT, LEVEL)]


def is_lane(thing, number, n):
    """Whether it is a path of crossings from its place at the lower rim to that at the right one; of anything."""
    if not isinstance(thing, list) or not all([is_number_tuple(part, 2) for part in thing]):
        return False
    if not thing or thing[0] != (n - 1, number) or thing[-1] != (number, n - 1):
        return False
    return all([after in (above(ahead), right_of(ahead)) for ahead, after in zip(thing, thing[1:])])


def above(crossing):
    """The place above a crossing."""
    i, j = crossing
    return (i - 1, j)


def right_of(crossing):
    """The place to the right of a crossing."""
    i, j = crossing
    return (i, j + 1)


def refuse_no_lanes(thing):
    """Raise NoLanes if it is not the list of the lanes of a floor."""
    if not is_lanes(thing):
        raise NoLanes("these are no lanes")


def steps_of(lane):
    """By which kinds of stretches the lane goes, from the one beneath its first crossing to the one behind its last."""
    inner = [UPRIGHT if after == above(ahead) else LEVEL for ahead, after in zip(lane, lane[1:])]
    return [UPRIGHT] + inner + [LEVEL]


def passings_of(lanes):
    """For each crossing of the lanes the list of tuples (kind of stretch by which one comes, by which it goes on)."""
    passings = {}
    for lane in lanes:
        steps = steps_of(lane)
        for crossing, comes, goes in zip(lane, steps, steps[1:]):
            passings.setdefault(crossing, []).append((comes, goes))
    return passings


def lanes_of(floor):
    """The lanes of the floor, by their numbers."""
    refuse_no_floor(floor)
    return [lane_from(floor, number) for number in range(len(floor))]


def lane_from(floor, number):
    """The lane of the floor with the number."""
    place = (len(floor) - 1, number)
    step = UPRIGHT
    lane = []
    while is_within(place, len(floor)):
        lane.append(place)
        step = step_behind(floor, place, step)
        place = above(place) if step == UPRIGHT else right_of(place)
    return lane


def step_behind(floor, crossing, step):
    """By which kind of stretch a lane goes on from the crossing that it came to by this kind."""
    i, j = crossing
    # Where two lanes touch, both other stretches are taken and each lane bends; so it bends wherever it can.
    if step == UPRIGHT:
        return LEVEL if sum_ahead(floor, (LEVEL, i, j + 1)) == 1 else UPRIGHT
    return UPRIGHT if sum_ahead(floor, (UPRIGHT, i, j)) == 1 else LEVEL


def floor_by_lanes(lanes):
    """The floor that has these lanes."""
    refuse_no_lanes(lanes)
    floor = [[0] * len(lanes) for lane in lanes]
    for (i, j), found in passings_of(lanes).items():
        # A row's sum grows where a lane bends to the right and shrinks where one bends up; a touch has both.
        floor[i][j] = found.count((UPRIGHT, LEVEL)) - found.count((LEVEL, UPRIGHT))
    return floor


def touches_of(floor):
    """The rising list of the crossings that two lanes of the floor have in common."""
    passings = passings_of(lanes_of(floor))
    return [crossing for crossing in sorted(passings) if len(passings[crossing]) == 2]
