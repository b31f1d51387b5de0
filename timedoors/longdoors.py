"""Long doors: doors that lead up to nine ticks ahead or behind, and how levels play them by further rooms."""

from timedoors.checks import check_long_level, check_presses, check_room, check_runs, check_tick
from timedoors.errors import InvalidNumber
from timedoors.far import mark_of_runs, meeting_at
from timedoors.kinds import FARTHEST, fits_long_level, is_whole
from timedoors.levels import ticks_of_runs
from timedoors.machine import Machine
from timedoors.masks import lights_of
from timedoors.spans import join_firsts, join_lasts
from timedoors.spread import light_masks


def is_long_level(value):
    return fits_long_level(value)


def long_light(level, presses):
    check_long_level(level)
    check_presses(level, presses)
    return [lights_of(mask) for mask in light_masks(level, presses)]


def near_level(level):
    check_long_level(level)
    return made_near(level)


def made_near(level):
    rooms, doors = level
    near = [(list(needs), room, shift) for needs, room, shift in doors if -1 <= shift <= 1]
    for lot in lots_of_long_doors(doors):
        near.extend(near_doors(lot, rooms))
        rooms += further_rooms(lot)
    return rooms, near


def lots_of_long_doors(doors):
    """The long doors that lead to the same side and have the same needs, one list for each such lot."""
    lots = {}
    for needs, room, shift in doors:
        if not -1 <= shift <= 1:
            lots.setdefault((tuple(needs), shift > 0), []).append((needs, room, shift))
    return list(lots.values())


def further_rooms(lot):
    """How many rooms light goes through ahead of the last one to which a door of a lot leads."""
    return max([abs(shift) for _, _, shift in lot]) - 1


def near_doors(lot, first):
    """The doors of the further rooms of a lot, which are numbered from `first` on, and those that lead out of them."""
    needs, _, shift = lot[0]
    side = 1 if shift > 0 else -1
    doors = [(list(needs), first, side)]
    for number in range(1, further_rooms(lot)):
        doors.append(([first + number - 1], first + number, side))
    return doors + [([first + abs(far) - 2], room, side) for _, room, far in lot]


def slowed(level, many):
    check_long_level(level)
    if not is_whole(many) or not 1 <= many <= FARTHEST:
        raise InvalidNumber(many)
    if any([abs(shift * many) > FARTHEST for _, _, shift in level[1]]):
        raise InvalidNumber(many)
    return with_shifts_times(level, many)


def mirrored(level):
    check_long_level(level)
    return with_shifts_times(level, -1)


def with_shifts_times(level, factor):
    rooms, doors = level
    return rooms, [(list(needs), room, shift * factor) for needs, room, shift in doors]


def check_long_runs(level, runs):
    check_long_level(level)
    check_runs(level, runs)


def long_far_light(level, runs, tick):
    check_long_runs(level, runs)
    check_tick(ticks_of_runs(runs), tick)
    lit, _, _ = meeting_at(Machine(made_near(level)), runs, tick)
    return [room for room in lights_of(lit) if room < level[0]]


def reach_of(level, runs, room):
    check_long_runs(level, runs)
    check_room(level, room)
    machine = Machine(made_near(level))
    first = mark_of_runs(machine, runs, room, (None, 0), join_firsts)
    if first is None:
        return None
    return first, mark_of_runs(machine, runs, room, (None, 0), join_lasts)
