"""Dark levels with what is told to be dark: the parts of a level whose doors are then open."""

from timedoors.kinds import fits_presses
from timedoors.machine import Machine
from timedoors.masks import mask_of
from timedoors.spread import masks_of_waves, waves_from


def dark_door_masks(level):
    """The doors in their order: the masks of the needs, of the darks and of the room, the shift."""
    return [(mask_of(needs), mask_of(darks), 1 << room, shift) for needs, darks, room, shift in level[1]]


def masks_by_opened(doors, pressed, told):
    """What the doors give, from nothing on, that are open where their darks are dark in the masks of `told`."""
    opened = [[(needs, gives, shift) for needs, darks, gives, shift in doors if darks & lit == 0] for lit in told]
    return masks_of_waves(len(pressed), waves_from(opened, pressed))


def comes_by_itself(level, presses, value):
    """Whether any value is just the history that comes from presses by the doors that it opens by its own darks."""
    if not fits_presses(level[0], value) or len(value) != len(presses):
        return False
    told = [mask_of(lights) for lights in value]
    return masks_by_opened(dark_door_masks(level), [mask_of(lights) for lights in presses], told) == told


class Parts:
    """The parts of a dark level, each a machine with the sides of the whole one."""

    def __init__(self, level):
        rooms, doors = level
        self.darks = [mask_of(darks) for _, darks, _, _ in doors]
        self.whole = (rooms, [(needs, room, shift) for needs, _, room, shift in doors])
        self.known = {}

    def opened_by(self, lit):
        """Which doors are open by their darks if just `lit` is lit."""
        return tuple([darks & lit == 0 for darks in self.darks])

    def part(self, opened):
        """The machine of the doors that are told to be open."""
        if opened not in self.known:
            rooms, doors = self.whole
            kept = [door for door, is_kept in zip(doors, opened) if is_kept]
            self.known[opened] = Machine((rooms, kept), self.whole)
        return self.known[opened]
