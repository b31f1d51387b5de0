"""Rescue: what pressed behind all presses changes at their ticks."""

from timedoors.checks import check_letters, check_level, check_presses, check_room, check_tick
from timedoors.masks import mask_of
from timedoors.search import all_states, first_marks
from timedoors.views import Views, lots_behind, lots_lighting


def rescue(level, presses, letters, tick, room):
    check_level(level)
    check_presses(level, presses)
    check_letters(level, letters)
    check_tick(len(presses), tick)
    check_room(level, room)
    views = Views(level)
    fronts, seen = seen_along(views, presses)
    lots = lots_lighting(seen[tick][0], room)
    for _, lefts, _ in seen[tick + 1:]:
        lots = lots_behind(lefts, lots)
    masks = [mask_of(lights) for lights in letters]

    def follow(state):
        return [(number, lots_after(views, state, mask)) for number, mask in enumerate(masks)]

    numbers = first_marks((fronts[-1], lots), follow, is_lit_with_nothing)
    return None if numbers is None else [list(letters[number]) for number in numbers]


def seen_along(views, presses):
    """The front of each number of first ticks of presses, and for each tick what is seen of it."""
    fronts = [views.first_front()]
    seen = []
    for lights in presses:
        seen.append(views.of_tick(fronts[-1], mask_of(lights)))
        fronts.append(seen[-1][2])
    return fronts, seen


def lots_after(views, state, pressed):
    """The front and the lots that light a room, one tick further on."""
    front, lots = state
    _, lefts, onward = views.of_tick(front, pressed)
    return onward, lots_behind(lefts, lots)


def is_lit_with_nothing(state):
    """Whether the lot of no rooms from behind lights the room."""
    return state[1] & 1 == 1


def settled_past(level, presses, letters):
    check_level(level)
    check_presses(level, presses)
    check_letters(level, letters)
    views = Views(level)
    fronts, seen = seen_along(views, presses)
    masks = [mask_of(lights) for lights in letters]

    def follow(state):
        return [(number, likes_after(views, state, mask)) for number, mask in enumerate(masks)]

    first = tuple([like_ticks(seen, lot) for lot in range(len(fronts[0]))])
    states = all_states((fronts[-1], first), follow)
    return min([row[0] for _, row in states])


def like_ticks(seen, lot):
    """How many first ticks are lit, if a lot comes in from behind, as they are if nothing does."""
    nothing = 0
    like = len(seen)
    for tick in range(len(seen) - 1, -1, -1):
        lits, lefts, _ = seen[tick]
        if lits[lot] != lits[nothing]:
            like = tick
        lot, nothing = lefts[lot], lefts[nothing]
    return like


def likes_after(views, state, pressed):
    """The front, and for each lot from behind how many first ticks are lit as before, one tick further on."""
    front, row = state
    _, lefts, onward = views.of_tick(front, pressed)
    return onward, tuple([row[left] for left in lefts])
