"""Rescue: what pressed behind all presses changes at their ticks."""

from timedoors.checks import check_letters, check_level, check_presses, check_room, check_tick
from timedoors.masks import lights_of, mask_of
from timedoors.search import first_marks, leads_to
from timedoors.views import Views, lots_behind, lots_lighting


def rescue(level, presses, letters, tick, room):
    check_level(level)
    check_presses(level, presses)
    check_letters(level, letters)
    check_tick(len(presses), tick)
    check_room(level, room)
    letting = Letting(level, presses, letters)

    def follow(state):
        return letting.follow(state)

    numbers = first_marks(letting.begin(tick, room), follow, is_lit_with_nothing)
    return None if numbers is None else [list(letters[number]) for number in numbers]


def is_lit_with_nothing(state):
    """Whether the lot of no rooms from behind lights the room."""
    return state[1] & 1 == 1


class Letting:
    """Presses, and what letters behind them let in: a state is a front and the lots from behind that light a room."""

    def __init__(self, level, presses, letters):
        self.views = Views(level)
        self.letters = [mask_of(lights) for lights in letters]
        self.front = self.views.first_front()
        seen = []
        for lights in presses:
            seen.append(self.views.of_tick(self.front, mask_of(lights)))
            self.front = seen[-1][2]
        self.lits = lits_by_lot(seen, len(self.front))

    def begin(self, tick, room):
        """The state of a room at a tick of the presses."""
        return self.front, lots_lighting(self.lits[tick], room)

    def follow(self, state):
        """The states one tick further on, each with the number of its letter."""
        front, lots = state
        # What no lot lights, no lot from further behind does.
        if lots == 0:
            return []
        told = [self.views.of_tick(front, pressed) for pressed in self.letters]
        return [(number, (onward, lots_behind(lefts, lots))) for number, (_, lefts, onward) in enumerate(told)]


def lits_by_lot(seen, lots):
    """What is lit at each tick, for each lot that comes in behind the last one."""
    came = list(range(lots))
    lits = []
    for lit, lefts, _ in reversed(seen):
        lits.append([lit[lot] for lot in came])
        came = [lefts[lot] for lot in came]
    lits.reverse()
    return lits


def settled_past(level, presses, letters):
    check_level(level)
    check_presses(level, presses)
    check_letters(level, letters)
    letting = Letting(level, presses, letters)

    def follow(state):
        return letting.follow(state)

    met = {}
    for tick in range(len(presses)):
        states = [letting.begin(tick, room) for room in range(level[0]) if room not in lights_of(letting.lits[tick][0])]
        if any([leads_to(state, follow, is_lit_with_nothing, met) for state in states]):
            return tick
    return len(presses)
