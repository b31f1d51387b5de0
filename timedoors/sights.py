"""Founded histories as they are looked at.

The look (tick, room) has the number tick * rooms + room, so numbers stand in the order of looks. A history is a mask
here: the bit with the number of a look is set if the room is lit at the tick.
"""

from timedoors.errors import TooMany
from timedoors.guesses import Course
from timedoors.kinds import fits_room, is_count, is_tuple_of
from timedoors.masks import lights_of, mask_of

MOST_HISTORIES = 300


def fits_look(rooms, ticks, value):
    return is_tuple_of(2, value) and is_count(value[0]) and value[0] < ticks and fits_room(rooms, value[1])


def fits_looks(rooms, ticks, value):
    """Whether any value is a list of looks in order, each once."""
    if not isinstance(value, list) or not all([fits_look(rooms, ticks, look) for look in value]):
        return False
    return all([value[at] < value[at + 1] for at in range(len(value) - 1)])


def fits_seen(rooms, ticks, value):
    """Whether any value is a list of sights in order, no two with one look."""
    if not isinstance(value, list) or not all([is_tuple_of(3, sight) for sight in value]):
        return False
    if not all([isinstance(lit, bool) for _, _, lit in value]):
        return False
    return fits_looks(rooms, ticks, [(tick, room) for tick, room, _ in value])


class Histories:
    """The masks of all founded histories of presses, in Python's order of their lights; `every` has all looks."""

    def __init__(self, level, presses):
        course = Course(level, presses)
        if course.how_many() > MOST_HISTORIES:
            raise TooMany(MOST_HISTORIES + 1)
        self.rooms = level[0]
        self.ticks = len(presses)
        self.every = (1 << self.rooms * self.ticks) - 1
        self.masks = [joined_mask(self.rooms, masks) for masks in course.histories()]

    def number(self, look):
        tick, room = look
        return tick * self.rooms + room

    def look(self, number):
        return number // self.rooms, number % self.rooms

    def looks_in(self, mask):
        return [self.look(number) for number in lights_of(mask)]

    def mask_of_looks(self, looks):
        return mask_of([self.number(look) for look in looks])

    def lights(self, mask):
        """The lights at each tick, told by a mask of looks."""
        told = [mask >> tick * self.rooms for tick in range(self.ticks)]
        return [lights_of(part & ((1 << self.rooms) - 1)) for part in told]

    def agreeing(self, seen):
        """The masks of the histories that agree with sights."""
        looked = self.mask_of_looks([(tick, room) for tick, room, _ in seen])
        lit = self.mask_of_looks([(tick, room) for tick, room, is_lit in seen if is_lit])
        return [mask for mask in self.masks if mask & looked == lit]


def joined_mask(rooms, masks):
    """The one mask of a history that is told by a mask for each tick."""
    whole = 0
    for tick, mask in enumerate(masks):
        whole |= mask << tick * rooms
    return whole
