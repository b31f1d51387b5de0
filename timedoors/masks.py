"""Lights as masks: the bit with a room's number is set if the room is lit."""


def mask_of(lights):
    mask = 0
    for room in lights:
        mask |= 1 << room
    return mask


def lights_of(mask):
    """A new list at each call, so that no list occurs twice in a result."""
    lights = []
    room = 0
    while mask > 0:
        if mask & 1:
            lights.append(room)
        mask >>= 1
        room += 1
    return lights


def in_each(mask, others):
    """What of a mask is in each one of some others, too."""
    for other in others:
        mask &= other
    return mask


def in_some(masks):
    whole = 0
    for mask in masks:
        whole |= mask
    return whole


def door_masks(level):
    """The doors in their order: the mask of the needs, the mask of the room, the shift."""
    return [(mask_of(needs), 1 << room, shift) for needs, room, shift in level[1]]
