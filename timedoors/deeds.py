"""Deeds: what can be done to the presses of a level, each a tuple of its name and of what it is done with.

The function of each kind tells the presses behind a deed, `None` if there is no such deed or it can not be done.
"""

from timedoors.kinds import fits_lights, is_count, is_tuple_of
from timedoors.lines import recorded_in

MOST_TICKS = 30


def behind_tick(level, presses, deed):
    if not is_tuple_of(2, deed) or not fits_lights(level[0], deed[1]):
        return None
    return presses + [list(deed[1])]


def behind_press(level, presses, deed):
    if not is_change(level, presses, deed) or any([room in presses[deed[1]] for room in deed[2]]):
        return None
    return with_lights(presses, deed[1], sorted(presses[deed[1]] + deed[2]))


def behind_lift(level, presses, deed):
    if not is_change(level, presses, deed) or not all([room in presses[deed[1]] for room in deed[2]]):
        return None
    return with_lights(presses, deed[1], [room for room in presses[deed[1]] if room not in deed[2]])


def is_change(level, presses, deed):
    """Whether a deed is told with a tick that there is and with lights that are not empty."""
    if not is_tuple_of(3, deed) or not is_count(deed[1]) or deed[1] >= len(presses):
        return False
    return fits_lights(level[0], deed[2]) and len(deed[2]) > 0


def with_lights(presses, tick, lights):
    return presses[:tick] + [lights] + presses[tick + 1:]


def behind_cut(level, presses, deed):
    if not is_tuple_of(2, deed) or not is_count(deed[1]) or deed[1] >= len(presses):
        return None
    return presses[:deed[1]]


def behind_read(level, presses, deed):
    if not is_tuple_of(2, deed) or not isinstance(deed[1], str):
        return None
    told = recorded_in(deed[1])
    return None if told is None or told[0] != level else presses + told[1]


DEEDS = {"tick": behind_tick, "press": behind_press, "lift": behind_lift, "cut": behind_cut, "read": behind_read}


def presses_behind(level, presses, value):
    """The presses behind any value, `None` unless it is a deed that can be done to these presses."""
    if not isinstance(value, tuple) or len(value) == 0 or not isinstance(value[0], str) or value[0] not in DEEDS:
        return None
    behind_deed = DEEDS[value[0]]
    behind = behind_deed(level, presses, value)
    return None if behind is None or len(behind) > MOST_TICKS else behind


def copy_of_deed(deed):
    return tuple([list(part) if isinstance(part, list) else part for part in deed])
