"""Dark levels gone through with a guess at each tick of what is lit.

A state is `(front, lots)` here: the front of all ticks so far, with just the doors that the guesses open, and the mask
(see views) of the lots of left rooms with which, coming in behind them, each tick is lit just as guessed. States are
numbered as they are met, that of no ticks is 0; those in which no lot is left are left out.
"""

from timedoors.levels import rooms_of_shift
from timedoors.masks import mask_of
from timedoors.opening import Parts
from timedoors.stretches import indexes_in_order
from timedoors.views import look_at


class Guesses:
    """A dark level with all that has been gone through so far."""

    def __init__(self, level):
        self.parts = Parts(level)
        masks = indexes_in_order(list(range(level[0])))
        self.guesses = [(mask, self.parts.opened_by(mask)) for mask in masks]
        lots = 1 << len(rooms_of_shift(self.parts.whole, -1))
        nothing = (tuple([0 for _ in range(lots)]), (1 << lots) - 1)
        self.states = [nothing]
        self.numbers = {nothing: 0}
        self.seen = {}
        self.leads = {}

    def is_end(self, number):
        """Whether each tick is as guessed if nothing comes in behind."""
        return self.states[number][1] & 1 == 1

    def follow(self, number, pressed):
        """The tuples of a guess, in Python's order of lights, and of the number of the state to which it leads."""
        place = (number, pressed)
        if place not in self.leads:
            self.leads[place] = self.gone_on(number, pressed)
        return self.leads[place]

    def gone_on(self, number, pressed):
        front, lots = self.states[number]
        found = []
        for guess, opened in self.guesses:
            if pressed & ~guess == 0:
                lits, lefts, onward = self.of_tick(front, pressed, opened)
                later = lots_as_guessed(lits, lefts, lots, guess)
                if later != 0:
                    found.append((guess, self.number_of((onward, later))))
        return found

    def of_tick(self, front, pressed, opened):
        """For each lot from behind what is lit at a tick with the opened doors, what it sends left, and right."""
        place = (front, pressed, opened)
        if place not in self.seen:
            self.seen[place] = look_at(self.parts.part(opened), front, pressed)
        return self.seen[place]

    def number_of(self, state):
        if state not in self.numbers:
            self.numbers[state] = len(self.states)
            self.states.append(state)
        return self.numbers[state]


def lots_as_guessed(lits, lefts, lots, guess):
    """The lots with which a tick is lit as guessed and sends left one of the told lots."""
    later = 0
    for at, left in enumerate(lefts):
        if lits[at] == guess and lots >> left & 1:
            later |= 1 << at
    return later


def states_after(guesses, numbers, pressed):
    """The states, each once, to which some states lead if so is pressed at the next tick."""
    met = {}
    for number in numbers:
        for _, later in guesses.follow(number, pressed):
            met[later] = True
    return list(met)


class Course:
    """A dark level with presses, gone through with all guesses.

    For each tick, and behind the last one, `ways` tells for each state that is come to there how many rows of guesses
    lead on to an end at which all is as guessed: so many founded histories go through it.
    """

    def __init__(self, level, presses):
        self.guesses = Guesses(level)
        self.pressed = [mask_of(lights) for lights in presses]
        self.rows = rows_come_to(self.guesses, self.pressed, [[] for _ in presses])
        self.ways = ways_on(self.guesses, self.pressed, self.rows)

    def how_many(self):
        return self.ways[0][0]

    def leading(self, tick, number):
        """The guesses at a tick, with the states behind it, by which founded histories go on from a state."""
        told = self.guesses.follow(number, self.pressed[tick])
        return [(guess, later) for guess, later in told if self.ways[tick + 1][later] > 0]

    def histories(self):
        """The masks of all founded histories, in Python's order of their lights."""
        found = [([], 0)]
        for tick in range(len(self.pressed)):
            found = [(masks + [guess], later) for masks, number in found for guess, later in self.leading(tick, number)]
        return [masks for masks, _ in found]

    def first(self):
        """The masks of the first founded history, `None` if there is none."""
        if self.how_many() == 0:
            return None
        masks = []
        number = 0
        for tick in range(len(self.pressed)):
            guess, number = self.leading(tick, number)[0]
            masks.append(guess)
        return masks

    def guesses_at(self, tick):
        """What is lit at a tick in founded histories: a mask for each way in which it can be lit."""
        return [guess for number in self.rows[tick] for guess, _ in self.leading(tick, number)]


def rows_come_to(guesses, pressed, more):
    """The states ahead of each tick, and behind the last one; those of `more` are come to behind the ticks, too."""
    rows = [[0]]
    for mask, others in zip(pressed, more):
        rows.append(sorted(set(states_after(guesses, rows[-1], mask) + others)))
    return rows


def ways_on(guesses, pressed, rows):
    ways = [{number: 1 if guesses.is_end(number) else 0 for number in rows[-1]}]
    for tick in range(len(pressed) - 1, -1, -1):
        behind = ways[-1]
        told = [(number, guesses.follow(number, pressed[tick])) for number in rows[tick]]
        ways.append({number: sum([behind[later] for _, later in leads]) for number, leads in told})
    ways.reverse()
    return ways
