"""A house as it is walked: what a walk so far is for all that may follow, as tuples of small numbers.

A state is `(place, front, lots)` here: the place at the last tick, the front of all ticks but this one, and the
mask (see views) of the lots of left rooms with which, coming in at the last tick, all steps so far can be gone.
"""

from timedoors.houses import needs_between
from timedoors.machine import lights_by_index
from timedoors.masks import mask_of
from timedoors.kinds import fits_place, is_tuple_of
from timedoors.rests import row_in, told_row
from timedoors.stretches import index_in, indexes_in_order
from timedoors.views import Views


class Ground:
    """A house with what its places light and what its steps need, as masks."""

    def __init__(self, house):
        level, plates, steps = house
        self.views = Views(level)
        self.plates = [mask_of(lights) for lights in plates]
        self.goals = [sorted(set([place] + goals_from(steps, place))) for place in range(len(plates))]
        self.needs = {(place, goal): needs_between(house, place, goal) for place, goal, _ in steps}

    def begin(self, place):
        """The state of the place alone."""
        return place, self.views.first_front(), self.views.all_lots()

    def wants(self, place, goal):
        """What has to be lit to go on: one of a list of masks, for each hand that does not stay."""
        return [] if place == goal else [self.needs[(place, goal)]]

    def gone_on(self, state, goal):
        place, front, lots = state
        wants = self.wants(place, goal)
        front, lots = play_on(self.views, front, lots, (self.plates[place], wants, self.plates[goal]))
        return goal, front, lots

    def follow(self, state):
        """The states that follow a state, but for those that no playable walk has."""
        told = [(goal, self.gone_on(state, goal)) for goal in self.goals[state[0]]]
        return [(goal, later) for goal, later in told if later[2] != 0]

    def is_lit(self, state, room):
        """Whether a room is lit at the last tick, with nothing behind it."""
        place, front, _ = state
        lits, _, _ = self.views.of_tick(front, self.plates[place])
        return lits[0] >> room & 1 == 1

    def told(self, state):
        """A state as it is handed out."""
        place, front, lots = state
        lefts, rights = self.views.machine.lefts, self.views.machine.rights
        told = [lights_by_index(lefts, at) for at in indexes_in_order(lefts) if lots >> at & 1]
        return place, told_row(lefts, rights, front), told


def goals_from(steps, place):
    return [goal for start, goal, _ in steps if start == place]


def is_playable(state):
    """Whether all steps can be gone if nothing comes in from behind."""
    return state[2] & 1 == 1


def play_on(views, front, lots, step):
    """The front and the lots of one tick more; a step is what is pressed, what is wanted, what is pressed then."""
    pressed, wants, pressed_then = step
    lits, _, onward = views.of_tick(front, pressed)
    _, lefts, _ = views.of_tick(onward, pressed_then)
    later = 0
    for at, left in enumerate(lefts):
        if lots >> left & 1 and are_met(wants, lits[left]):
            later |= 1 << at
    return onward, later


def are_met(wants, lit):
    return all([any([lit & needs == needs for needs in want]) for want in wants])


def walked(ground, walk):
    """The state of a walk, playable or not."""
    state = ground.begin(walk[0])
    for goal in walk[1:]:
        state = ground.gone_on(state, goal)
    return state


def state_in(house, ground, value):
    """The state that a value tells, `None` if it is none."""
    if not is_tuple_of(3, value) or not fits_place(house, value[0]):
        return None
    place, front, lots = value
    lefts = ground.views.machine.lefts
    row = row_in(lefts, ground.views.machine.rights, front)
    mask = lots_in(lefts, lots)
    return None if row is None or mask is None else (place, tuple(row), mask)


def lots_in(rooms, value):
    """The mask of a list, not empty, of lots of these rooms in order, each once; `None` for any other value."""
    if not isinstance(value, list) or len(value) == 0:
        return None
    indexes = [index_in(rooms, lights) for lights in value]
    if None in indexes or any([value[at] >= value[at + 1] for at in range(len(value) - 1)]):
        return None
    return mask_of(indexes)
