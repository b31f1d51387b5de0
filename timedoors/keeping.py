"""Histories that keep a level: judging one, and counting all."""

from timedoors.kinds import fits_presses
from timedoors.masks import door_masks, mask_of


def is_keeping(level, presses, value):
    """Whether any value is a history of as many ticks as `presses` that keeps."""
    if not fits_presses(level[0], value) or len(value) != len(presses):
        return False
    lit = [mask_of(lights) for lights in value]
    for tick, lights in enumerate(presses):
        if mask_of(lights) & ~lit[tick]:
            return False
    return all([keeps_door(lit, door) for door in door_masks(level)])


def keeps_door(lit, door):
    needs, gives, shift = door
    for tick in range(len(lit)):
        goal = tick + shift
        if lit[tick] & needs == needs and 0 <= goal < len(lit) and not lit[goal] & gives:
            return False
    return True


def count_keeping(level, presses, banned):
    """How many histories keep and have nothing lit of `banned`, a mask for each tick."""
    if len(presses) == 0:
        return 1
    doors = door_masks(level)
    lots = [lot for lot in range(1 << level[0]) if given_in(doors, lot, 0) & ~lot == 0]
    ahead = neighbours(doors, lots)
    ways = {lot: 1 for lot in lots if is_let(lot, presses[0], banned[0])}
    for tick in range(1, len(presses)):
        here = [lot for lot in lots if is_let(lot, presses[tick], banned[tick])]
        ways = {lot: sum([ways.get(before, 0) for before in ahead[lot]]) for lot in here}
    return sum(list(ways.values()))


def is_let(lot, pressed, banned):
    must = mask_of(pressed)
    return lot & must == must and lot & banned == 0


def given_in(doors, lot, wanted):
    """What the open doors of one shift give if just `lot` is lit."""
    given = 0
    for needs, gives, shift in doors:
        if shift == wanted and lot & needs == needs:
            given |= gives
    return given


def neighbours(doors, lots):
    """For each lot those that can be lit at the tick ahead, whatever is pressed."""
    sent_on = [(lot, given_in(doors, lot, 1)) for lot in lots]
    ahead = {}
    for lot in lots:
        sent_back = given_in(doors, lot, -1)
        ahead[lot] = [before for before, sent in sent_on if sent & ~lot == 0 and sent_back & ~before == 0]
    return ahead
