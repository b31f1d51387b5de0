"""Histories by layers: the play of dark levels in which no ring leads through a dark need."""

from timedoors.checks import check_dark_level, check_endless, check_presses, check_room
from timedoors.errors import InvalidLayers, InvalidLevel
from timedoors.layers import fits_layers, least_counts
from timedoors.masks import lights_of, mask_of
from timedoors.meeting import lit_for_ever
from timedoors.opening import Parts, comes_by_itself, dark_door_masks, masks_by_opened
from timedoors.rounds import made_plain, plain_lights
from timedoors.search import all_states


def checked_counts(level):
    """The least layers of a level; those that are not there are 0."""
    check_dark_level(level)
    counts = least_counts(level)
    if counts is None:
        raise InvalidLevel(level)
    return counts


def layered_history(level, presses):
    counts = checked_counts(level)
    check_presses(level, presses)
    return played_by(level, counts, presses)


def layered_by(level, counts, presses):
    checked_counts(level)
    if not fits_layers(level, counts):
        raise InvalidLayers(counts)
    check_presses(level, presses)
    return played_by(level, counts, presses)


def played_by(level, counts, presses):
    lit = [mask_of(lights) for lights in presses]
    for part in parts_by_layers(level, counts):
        lit = masks_by_opened(dark_door_masks(part), lit, lit)
    return [lights_of(mask) for mask in lit]


def parts_by_layers(level, counts):
    """For each layer to whose rooms doors lead, from the least one on, the level with just these doors."""
    rooms, doors = level
    told = sorted({counts[room] for _, _, room, _ in doors})
    return [(rooms, [door for door in doors if counts[door[2]] == count]) for count in told]


def is_layered_history(level, presses, value):
    checked_counts(level)
    check_presses(level, presses)
    # By layers no other history opens just the doors by which it comes itself.
    return comes_by_itself(level, presses, value)


def swayed(level, one, other):
    check_dark_level(level)
    check_room(level, one)
    check_room(level, other)

    def follow(state):
        room, is_odd = state
        evenly = [(goal, is_odd) for needs, _, goal, _ in level[1] if room in needs]
        oddly = [(goal, not is_odd) for _, darks, goal, _ in level[1] if room in darks]
        return [(0, later) for later in evenly + oddly]

    met = all_states((one, False), follow)
    return (other, False) in met, (other, True) in met


def layered_endless(level, endless):
    counts = checked_counts(level)
    check_endless(level, endless)
    ahead, turn = [[mask_of(lights) for lights in presses] for presses in endless]
    for doors in parts_by_layers(level, counts):
        parts = Parts(doors)
        ahead, turn = lit_for_ever(ticks_opened(parts, ahead), ticks_opened(parts, turn))
        ahead, turn = made_plain(ahead, turn)
    return plain_lights(ahead, turn)


def ticks_opened(parts, told):
    """For each tick the machine of the doors that are open by what is told already, and this itself as pressed."""
    return [(parts.part(parts.opened_by(mask)), mask) for mask in told]
