"""Houses: a level with places where hands stand, and steps between them."""

from timedoors.checks import check_house, check_stand, check_walks
from timedoors.kinds import fits_house, fits_walk
from timedoors.masks import lights_of, mask_of
from timedoors.spread import light_masks


def is_house(value):
    return fits_house(value)


def is_walk(house, value):
    check_house(house)
    return fits_walk(house, value)


def steps_between(house, place, goal):
    check_house(house)
    check_stand(house, place)
    check_stand(house, goal)
    return [lights_of(mask) for mask in needs_between(house, place, goal)]


def needs_between(house, place, goal):
    """The masks of the needs of all steps from one place to another, in order of their lights, each once."""
    told = sorted([needs for start, end, needs in house[2] if start == place and end == goal])
    masks = {mask_of(needs): True for needs in told}
    return list(masks)


def pressed_by(house, walks):
    check_house(house)
    check_walks(house, walks)
    return presses_of_walks(house, walks)


def presses_of_walks(house, walks):
    ticks = max([len(walk) for walk in walks], default=0)
    return [lights_of(pressed_at_tick(house, walks, tick)) for tick in range(ticks)]


def pressed_at_tick(house, walks, tick):
    """The mask of what all who stand somewhere at a tick light there."""
    pressed = 0
    for walk in walks:
        if tick < len(walk):
            pressed |= mask_of(house[1][walk[tick]])
    return pressed


def hands_light(house, walks):
    check_house(house)
    check_walks(house, walks)
    return [lights_of(mask) for mask in masks_of_walks(house, walks)]


def masks_of_walks(house, walks):
    """The light of some walks, a mask for each tick."""
    return light_masks(house[0], presses_of_walks(house, walks))
