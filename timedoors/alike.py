"""Levels that are alike: whether two of them light the same watched rooms, whatever is pressed, however long.

A state is `(front, other_front, rows)` here: the fronts of both levels behind a list over the letters, and for
each lot from behind of the one level the mask (see views) of those lots of the other one with which the watched
rooms were lit alike at all ticks so far.
"""

from timedoors.checks import check_letters, check_level, check_lights, check_room
from timedoors.errors import InvalidNumber, Unlike
from timedoors.kinds import fits_numbers, fits_presses
from timedoors.levels import copy_of_level
from timedoors.masks import mask_of
from timedoors.search import first_marks
from timedoors.spread import light_masks
from timedoors.views import Views, lots_behind, lots_lighting


def check_alike(one, other, letters, watched):
    check_level(one)
    check_level(other)
    if other[0] != one[0]:
        raise Unlike(other)
    check_letters(one, letters)
    check_lights(one, watched)


def are_alike(one, other, letters, watched):
    check_alike(one, other, letters, watched)
    return first_parting(one, other, letters, watched) is None


def parting(one, other, letters, watched):
    check_alike(one, other, letters, watched)
    return first_parting(one, other, letters, watched)


def first_parting(one, other, letters, watched):
    views, others = Views(one), Views(other)
    masks = [mask_of(lights) for lights in letters]
    watched_mask = mask_of(watched)

    def follow(state):
        return [(number, both_on(views, others, state, (mask, watched_mask))) for number, mask in enumerate(masks)]

    front = views.first_front()
    start = (front, others.first_front(), tuple([others.all_lots() for _ in front]))
    return letters_numbered(letters, first_marks(start, follow, is_parted))


def letters_numbered(letters, numbers):
    return None if numbers is None else [list(letters[number]) for number in numbers]


def is_parted(state):
    """Whether the watched rooms were lit unlike if nothing comes in from behind."""
    return state[2][0] & 1 == 0


def both_on(views, others, state, step):
    """The state one tick further on; a step is what is pressed and what is watched."""
    front, other_front, rows = state
    pressed, watched = step
    lits, lefts, onward = views.of_tick(front, pressed)
    other_lits, other_lefts, other_onward = others.of_tick(other_front, pressed)
    seen = [(lit & watched, left) for lit, left in zip(lits, lefts)]
    # Many lots are seen alike and send the same left: then the row is the same, too.
    told = {}
    for shown, left in seen:
        if (shown, left) not in told:
            told[(shown, left)] = lots_showing(other_lits, watched, shown) & lots_behind(other_lefts, rows[left])
    return onward, other_onward, tuple([told[both] for both in seen])


def lots_showing(lits, watched, shown):
    """The lots with which of the watched rooms just `shown` are lit at a tick."""
    lots = 0
    for at, lit in enumerate(lits):
        if lit & watched == shown:
            lots |= 1 << at
    return lots


def is_parting(one, other, letters, watched, value):
    check_alike(one, other, letters, watched)
    if not fits_presses(one[0], value) or not all([lights in letters for lights in value]):
        return False
    return does_part(one, other, watched, value)


def does_part(one, other, watched, presses):
    watched_mask = mask_of(watched)
    lits, other_lits = light_masks(one, presses), light_masks(other, presses)
    return any([(lit ^ other_lit) & watched_mask != 0 for lit, other_lit in zip(lits, other_lits)])


def lighting(level, letters, room):
    check_level(level)
    check_letters(level, letters)
    check_room(level, room)
    views = Views(level)
    masks = [mask_of(lights) for lights in letters]

    def follow(state):
        return [(number, lit_on(views, state, mask, room)) for number, mask in enumerate(masks)]

    return letters_numbered(letters, first_marks((views.first_front(), 0), follow, is_lighting))


def lit_on(views, state, pressed, room):
    """The front, and the lots from behind with which a room has been lit at some tick, one tick further on."""
    front, lots = state
    lits, lefts, onward = views.of_tick(front, pressed)
    return onward, lots_behind(lefts, lots) | lots_lighting(lits, room)


def is_lighting(state):
    return state[1] & 1 == 1


def without_doors(level, numbers):
    check_level(level)
    if not fits_numbers(len(level[1]), numbers):
        raise InvalidNumber(numbers)
    return copy_of_level(without_numbers(level, numbers))


def without_numbers(level, numbers):
    rooms, doors = level
    return rooms, [door for number, door in enumerate(doors) if number not in numbers]


def with_numbers(level, numbers):
    rooms, doors = level
    return rooms, [doors[number] for number in numbers]


def check_watched(level, letters, watched):
    check_level(level)
    check_letters(level, letters)
    check_lights(level, watched)


class Whole:
    """A level against which parts of it are held."""

    def __init__(self, level, letters, watched):
        self.full = level
        self.letters = letters
        self.watched = watched
        self.partings = []

    def is_like(self, numbers):
        """Whether the doors with these numbers alone are enough."""
        part = with_numbers(self.full, numbers)
        # A list that parts another part from the level often parts this one, too, and then saves a search.
        if any([does_part(self.full, part, self.watched, presses) for presses in self.partings]):
            return False
        first = first_parting(self.full, part, self.letters, self.watched)
        if first is not None:
            self.partings.append(first)
        return first is None


def idle_doors(level, letters, watched):
    check_watched(level, letters, watched)
    whole = Whole(level, letters, watched)
    numbers = list(range(len(level[1])))
    return [number for number in numbers if whole.is_like(numbers[:number] + numbers[number + 1:])]


def least_lots(level, letters, watched):
    check_watched(level, letters, watched)
    whole = Whole(level, letters, watched)
    least = []
    for lot in sorted(all_lots(len(level[1])), key=len):
        if not any([is_within(less, lot) for less in least]) and whole.is_like(lot):
            least.append(lot)
    return sorted(least)


def all_lots(many):
    """All ascending lists of numbers below so many."""
    lots = [[]]
    for number in range(many):
        lots = lots + [lot + [number] for lot in lots]
    return lots


def is_within(less, lot):
    return all([number in lot for number in less])


def is_enough(level, letters, watched, value):
    check_watched(level, letters, watched)
    if not fits_numbers(len(level[1]), value):
        return False
    return Whole(level, letters, watched).is_like(value)
