"""Endless presses: what is lit for ever, and how far one press reaches."""

from timedoors.checks import check_count, check_endless, check_level, check_lights, check_presses, check_tick
from timedoors.errors import InvalidNumber
from timedoors.kinds import fits_endless, is_count
from timedoors.levels import both_pressed, pressed_at
from timedoors.machine import Machine
from timedoors.masks import door_masks, lights_of, mask_of
from timedoors.meeting import lit_for_ever, lit_onward, no_rest, rest_before, rests_from, tables_of_ticks, ticks_of
from timedoors.rounds import plain_lights
from timedoors.spread import light_masks
from timedoors.stretches import table_of_presses

MOST_STAYING = 60


def for_ever(level, endless):
    check_level(level)
    check_endless(level, endless)
    return endless_light(level, endless)


def endless_light(level, endless):
    machine = Machine(level)
    ahead, turn = lit_for_ever(ticks_of(machine, endless[0]), ticks_of(machine, endless[1]))
    return plain_lights(ahead, turn)


def for_ever_at(level, endless, tick):
    check_level(level)
    check_endless(level, endless)
    check_count(tick)
    return pressed_at(level, endless_light(level, endless), tick)


def keeps_for_ever(level, endless, value):
    check_level(level)
    check_endless(level, endless)
    if not fits_endless(level[0], value):
        return False
    # The tick at which both rounds begin once more is looked at, too: its doors lead back to the one ahead.
    ticks = begun_again(endless, value) + 1
    lit = masks_of_endless(value, ticks + 1)
    pressed = masks_of_endless(endless, ticks)
    if any([pressed[tick] & ~lit[tick] for tick in range(ticks)]):
        return False
    doors = door_masks(level)
    return all([keeps_tick(doors, lit, tick) for tick in range(ticks)])


def begun_again(one, other):
    """How many ticks there are until both rounds have begun together once and do so again."""
    both = len(one[1])
    while both % len(other[1]) > 0:
        both += len(one[1])
    return max(len(one[0]), len(other[0])) + both


def masks_of_endless(endless, ticks):
    presses, turn = endless
    masks = [mask_of(lights) for lights in presses]
    while len(masks) < ticks:
        masks.extend([mask_of(lights) for lights in turn])
    return masks[:ticks]


def keeps_tick(doors, lit, tick):
    """Whether no door that is open at a tick is passed by; there is a tick behind it."""
    for needs, gives, shift in doors:
        goal = tick + shift
        if lit[tick] & needs == needs and goal >= 0 and not lit[goal] & gives:
            return False
    return True


def stays_from(level, endless, many):
    check_level(level)
    check_endless(level, endless)
    if not is_count(many) or many > MOST_STAYING:
        raise InvalidNumber(many)
    presses, turn = endless
    wanted = masks_of_endless(endless_light(level, endless), many)
    rounds = 0
    while len(presses) + rounds * len(turn) < many:
        rounds += 1
    ticks = presses + turn * rounds
    machine = Machine(level)
    once = table_of_presses(machine, turn)
    rest = no_rest(machine)
    # More rounds never make a tick darker: so once all is there, it stays.
    while lit_onward(ticks_of(machine, ticks), rest, 0)[0][:many] != wanted:
        rest = rest_before(machine, once, rest)
        rounds += 1
    return rounds


def check_further(level, presses, tick, lights):
    check_level(level)
    check_presses(level, presses)
    check_tick(len(presses), tick)
    check_lights(level, lights)


def changed(level, presses, tick, lights):
    check_further(level, presses, tick, lights)
    return [when for when, _ in further_light(level, presses, tick, lights)]


def added(level, presses, tick, lights):
    check_further(level, presses, tick, lights)
    return [(when, lights_of(mask)) for when, mask in further_light(level, presses, tick, lights)]


def further_light(level, presses, tick, lights):
    """The tuples of a tick and the mask of what is lit there only if further lights are pressed."""
    before = light_masks(level, presses)
    behind = light_masks(level, both_pressed(level, presses, [[] for _ in range(tick)] + [lights]))
    return [(when, mask & ~before[when]) for when, mask in enumerate(behind) if mask != before[when]]


def reach_back(level, presses, tick, lights):
    check_further(level, presses, tick, lights)
    machine = Machine(level)
    tables = tables_of_ticks(machine, presses)
    rests = rests_from(machine, tables, no_rest(machine))
    pressed = machine.table_of_tick(mask_of(presses[tick]) | mask_of(lights))
    more = rests_from(machine, tables[:tick] + [pressed], rests[tick + 1])
    while tick > 0 and rests[tick] != more[tick]:
        tick -= 1
    return tick
