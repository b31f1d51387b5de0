"""Reasons: which presses a lit room owes its light to."""

from timedoors.checks import check_level, check_presses, check_room, check_room_at, check_tick
from timedoors.errors import InvalidNumber, InvalidPresses
from timedoors.kinds import fits_lot, is_whole
from timedoors.lots import crossing_masks, least_of
from timedoors.masks import lights_of
from timedoors.spread import light_masks

MOST_TICKS = 30


def presses_in(level, presses):
    check_level(level)
    check_presses(level, presses)
    return all_presses(presses)


def all_presses(presses):
    return [(tick, room) for tick, lights in enumerate(presses) for room in lights]


def is_lot_of(presses, value):
    """Whether any value is an ascending list of presses that there are."""
    return fits_lot(value) and all([tick < len(presses) and room in presses[tick] for tick, room in value])


def check_lot(level, presses, lot):
    check_level(level)
    check_presses(level, presses)
    if not is_lot_of(presses, lot):
        raise InvalidPresses(lot)


def with_only(level, presses, lot):
    check_lot(level, presses, lot)
    return only_pressed(len(presses), lot)


def without(level, presses, lot):
    check_lot(level, presses, lot)
    return only_pressed(len(presses), others_of(presses, lot))


def only_pressed(ticks, lot):
    pressed = [[] for _ in range(ticks)]
    for tick, room in lot:
        pressed[tick].append(room)
    return pressed


def others_of(presses, lot):
    return [press for press in all_presses(presses) if press not in lot]


def does_light(level, ticks, lot, tick, room):
    return light_masks(level, only_pressed(ticks, lot))[tick] >> room & 1 == 1


def lots_that_light(level, presses, tick, room):
    """For each mask of presses, counted as in the lot of all, whether these light a room at a tick."""
    every = all_presses(presses)
    many = 1 << len(every)
    if not does_light(level, len(presses), every, tick, room):
        return [False for _ in range(many)]
    told = []
    for mask in range(many):
        # What a lesser lot lights needs no light to be made once more.
        is_sure = any([told[mask & ~(1 << at)] for at in lights_of(mask)])
        lot = [every[at] for at in lights_of(mask)]
        told.append(is_sure or does_light(level, len(presses), lot, tick, room))
    return told


def reason_masks(level, presses, tick, room):
    told = lots_that_light(level, presses, tick, room)
    return least_of([mask for mask, is_lit in enumerate(told) if is_lit])


def lots_told(items, masks):
    return sorted([[items[at] for at in lights_of(mask)] for mask in masks])


def reasons(level, presses, tick, room):
    check_room_at(level, presses, tick, room)
    return lots_told(all_presses(presses), reason_masks(level, presses, tick, room))


def cuts(level, presses, tick, room):
    check_room_at(level, presses, tick, room)
    return lots_told(all_presses(presses), crossing_masks(reason_masks(level, presses, tick, room)))


def is_reason(level, presses, tick, room, value):
    check_room_at(level, presses, tick, room)
    if not is_lot_of(presses, value) or not does_light(level, len(presses), value, tick, room):
        return False
    return not any([does_light(level, len(presses), part, tick, room) for part in parts_of(value)])


def is_cut(level, presses, tick, room, value):
    check_room_at(level, presses, tick, room)
    if not is_lot_of(presses, value) or does_light(level, len(presses), others_of(presses, value), tick, room):
        return False
    others = [others_of(presses, part) for part in parts_of(value)]
    return all([does_light(level, len(presses), lot, tick, room) for lot in others])


def parts_of(lot):
    """The lots with one item less: where none of these is enough, no lesser one is."""
    return [lot[:at] + lot[at + 1:] for at in range(len(lot))]


def crossing(lots):
    if not isinstance(lots, list) or not all([fits_lot(lot) for lot in lots]):
        raise InvalidPresses(lots)
    items = sorted(set([press for lot in lots for press in lot]))
    masks = [sum([1 << items.index(press) for press in lot]) for lot in lots]
    return lots_told(items, crossing_masks(masks))


def fewest_reason(level, presses, tick, room):
    return first_of_fewest(reasons(level, presses, tick, room))


def fewest_cut(level, presses, tick, room):
    return first_of_fewest(cuts(level, presses, tick, room))


def first_of_fewest(lots):
    """The lots stand in order, and of those with as many items `min` takes the first."""
    return min(lots, key=len, default=None)


def sure_presses(level, presses, tick, room):
    check_room_at(level, presses, tick, room)
    masks = reason_masks(level, presses, tick, room)
    if len(masks) == 0:
        return []
    return [press for at, press in enumerate(all_presses(presses)) if all([mask >> at & 1 for mask in masks])]


def idle_presses(level, presses, tick, room):
    check_room_at(level, presses, tick, room)
    masks = reason_masks(level, presses, tick, room)
    return [press for at, press in enumerate(all_presses(presses)) if not any([mask >> at & 1 for mask in masks])]


def how_many_light(level, presses, tick, room):
    check_room_at(level, presses, tick, room)
    return sum(lots_that_light(level, presses, tick, room))


def alone(level, ticks, tick, room):
    check_level(level)
    if not is_whole(ticks) or not 1 <= ticks <= MOST_TICKS:
        raise InvalidNumber(ticks)
    check_tick(ticks, tick)
    check_room(level, room)
    return [lights_of(mask) for mask in light_masks(level, only_pressed(ticks, [(tick, room)]))]


def is_added(level, presses):
    check_level(level)
    check_presses(level, presses)
    return len(lit_together(level, presses)) == 0


def together(level, presses):
    check_level(level)
    check_presses(level, presses)
    return lit_together(level, presses)


def lit_together(level, presses):
    """The tuples of a tick and a room that no press alone lights, nor none, but all presses do."""
    lots = [[]] + [[press] for press in all_presses(presses)]
    lights = [light_masks(level, only_pressed(len(presses), lot)) for lot in lots]
    found = []
    for tick, mask in enumerate(light_masks(level, presses)):
        for masks in lights:
            mask &= ~masks[tick]
        found.extend([(tick, room) for room in lights_of(mask)])
    return found
