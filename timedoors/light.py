"""The light: the least history that keeps all doors."""

from timedoors.checks import check_level, check_presses
from timedoors.errors import InvalidHistory, InvalidPresses
from timedoors.keeping import count_keeping, is_keeping
from timedoors.levels import both_pressed
from timedoors.masks import lights_of, mask_of
from timedoors.spread import light_masks, round_numbers


def light(level, presses):
    check_level(level)
    check_presses(level, presses)
    return [lights_of(mask) for mask in light_masks(level, presses)]


def keeps(level, presses, value):
    check_level(level)
    check_presses(level, presses)
    return is_keeping(level, presses, value)


def common(level, presses, one, other):
    check_level(level)
    check_presses(level, presses)
    for history in (one, other):
        if not is_keeping(level, presses, history):
            raise InvalidHistory(history)
    return [lights_of(mask_of(lights) & mask_of(others)) for lights, others in zip(one, other)]


def how_many_keep(level, presses):
    check_level(level)
    check_presses(level, presses)
    return count_keeping(level, presses, [0 for _ in presses])


def lit_rounds(level, presses):
    check_level(level)
    check_presses(level, presses)
    return round_numbers(level, presses)


def gained(level, presses, more):
    check_level(level)
    check_presses(level, presses)
    check_presses(level, more)
    if len(more) != len(presses):
        raise InvalidPresses(more)
    before = light_masks(level, presses)
    behind = light_masks(level, both_pressed(level, presses, more))
    return [(tick, room) for tick, mask in enumerate(behind) for room in lights_of(mask & ~before[tick])]
