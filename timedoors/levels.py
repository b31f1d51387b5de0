"""Levels as data: rooms, doors, and what hands press."""

from timedoors.checks import check_count, check_endless, check_level, check_presses, check_runs
from timedoors.errors import InvalidNumber, TooMany
from timedoors.kinds import fits_door, fits_endless, fits_letters, fits_level, fits_presses, fits_runs, is_whole
from timedoors.rounds import made_plain

MOST_SPREAD = 300


def is_level(value):
    return fits_level(value)


def is_door(rooms, value):
    if not is_whole(rooms) or rooms < 1:
        raise InvalidNumber(rooms)
    return fits_door(rooms, value)


def are_presses(level, value):
    check_level(level)
    return fits_presses(level[0], value)


def are_runs(level, value):
    check_level(level)
    return fits_runs(level[0], value)


def are_endless(level, value):
    check_level(level)
    return fits_endless(level[0], value)


def are_letters(level, value):
    check_level(level)
    return fits_letters(level[0], value)


def right_rooms(level):
    check_level(level)
    return rooms_of_shift(level, 1)


def left_rooms(level):
    check_level(level)
    return rooms_of_shift(level, -1)


def rooms_of_shift(level, wanted):
    """The rooms, ascending and each once, to which the doors of one shift lead."""
    return sorted({room for _, room, shift in level[1] if shift == wanted})


def copy_of_level(level):
    rooms, doors = level
    return rooms, [(list(needs), room, shift) for needs, room, shift in doors]


def both_pressed(level, presses, more):
    check_level(level)
    check_presses(level, presses)
    check_presses(level, more)
    ticks = max(len(presses), len(more))
    return [sorted(set(lights_or_none(presses, tick) + lights_or_none(more, tick))) for tick in range(ticks)]


def lights_or_none(presses, tick):
    return presses[tick] if tick < len(presses) else []


def spread_out(level, runs):
    check_level(level)
    check_runs(level, runs)
    ticks = ticks_of_runs(runs)
    if ticks > MOST_SPREAD:
        raise TooMany(ticks)
    presses = []
    for lights, many in runs:
        presses.extend([list(lights) for _ in range(many)])
    return presses


def how_many_ticks(level, runs):
    check_level(level)
    check_runs(level, runs)
    return ticks_of_runs(runs)


def ticks_of_runs(runs):
    return sum([many for _, many in runs])


def plain_endless(level, endless):
    check_level(level)
    check_endless(level, endless)
    presses, turn = made_plain(endless[0], endless[1])
    return [list(lights) for lights in presses], [list(lights) for lights in turn]


def pressed_at(level, endless, tick):
    check_level(level)
    check_endless(level, endless)
    check_count(tick)
    presses, turn = endless
    if tick < len(presses):
        return list(presses[tick])
    return list(turn[(tick - len(presses)) % len(turn)])
