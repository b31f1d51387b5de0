"""One more hand beside elder ones whose walks are told.

A state is `(time, place, front, lots)` here: beside what grounds tell of a walk, the tick, where elder hands
still stand somewhere; from the first tick on at which all of them are gone it is that tick.
"""

from timedoors.checks import check_count, check_house, check_stand, check_walks
from timedoors.grounds import Ground, are_met, play_on
from timedoors.houses import presses_of_walks
from timedoors.masks import mask_of
from timedoors.meeting import no_rest, rests_from, settle_between, settle_onward, tables_of_ticks
from timedoors.search import first_marks


class Beside:
    """A ground with elder hands: what they press and what they want at each tick, and what is behind it."""

    def __init__(self, house, walks):
        self.ground = Ground(house)
        self.machine = self.ground.views.machine
        presses = presses_of_walks(house, walks)
        nothing = no_rest(self.machine)
        self.gone = len(presses)
        self.pressed = [mask_of(lights) for lights in presses] + [0]
        self.wanted = [wants_at(self.ground, walks, tick) for tick in range(self.gone + 1)]
        self.rests = rests_from(self.machine, tables_of_ticks(self.machine, presses), nothing) + [nothing]
        self.ends_well = self.ends()

    def ends(self):
        """For each tick and each lot from the left: whether elder hands alone can go on from there to their ends."""
        ends = [[True for _ in self.rests[-1]]]
        for tick in range(self.gone - 1, -1, -1):
            ends.append([self.goes_on(tick, coming, ends[-1]) for coming in range(len(self.rests[-1]))])
        ends.reverse()
        return ends

    def goes_on(self, tick, coming, ends):
        lit, sent = settle_onward(self.machine, coming, self.pressed[tick], self.rests[tick + 1])
        return are_met(self.wanted[tick], lit) and ends[sent]

    def begin(self, place):
        place, front, lots = self.ground.begin(place)
        return 0, place, front, lots

    def lights(self, time, place):
        return self.pressed[time] | self.ground.plates[place]

    def follow(self, state):
        """The states that follow a state, but for those with which no walks are playable."""
        told = [(goal, self.gone_on(state, goal)) for goal in self.ground.goals[state[1]]]
        return [(goal, later) for goal, later in told if later[3] != 0]

    def gone_on(self, state, goal):
        time, place, front, lots = state
        later = min(time + 1, self.gone)
        wants = self.wanted[time] + self.ground.wants(place, goal)
        step = (self.lights(time, place), wants, self.lights(later, goal))
        front, lots = play_on(self.ground.views, front, lots, step)
        return later, goal, front, lots

    def is_played(self, state):
        """Whether all walks are playable if the younger hand is gone behind this tick."""
        time, place, front, lots = state
        later = min(time + 1, self.gone)
        lit, _, left = settle_between(self.machine, front, self.lights(time, place), self.rests[time + 1])
        if not lots >> left & 1 or not are_met(self.wanted[time], lit):
            return False
        _, _, sent = self.machine.settle(lit)
        return self.ends_well[later][sent]


def wants_at(ground, walks, tick):
    """What has to be lit at a tick for walks to go on."""
    wants = []
    for walk in walks:
        if tick + 1 < len(walk):
            wants.extend(ground.wants(walk[tick], walk[tick + 1]))
    return wants


def check_beside(house, walks, start, goal):
    check_house(house)
    check_walks(house, walks)
    check_stand(house, start)
    check_stand(house, goal)


def shortest_beside(house, walks, start, goal):
    check_beside(house, walks, start, goal)
    beside = Beside(house, walks)

    def follow(state):
        return beside.follow(state)

    def is_there(state):
        return state[1] == goal and beside.is_played(state)

    goals = first_marks(beside.begin(start), follow, is_there)
    return None if goals is None else [start] + goals


def how_many_beside(house, walks, start, goal, length):
    check_beside(house, walks, start, goal)
    check_count(length)
    beside = Beside(house, walks)
    ways = {beside.begin(start): 1}
    known = {}
    for _ in range(length):
        ways = one_step_more(beside, ways, known)
    return sum([many for state, many in ways.items() if state[1] == goal and beside.is_played(state)])


def one_step_more(beside, ways, known):
    """In how many ways each state is come to by one step more; `known` keeps what follows each state."""
    more = {}
    for state, many in ways.items():
        if state not in known:
            known[state] = beside.follow(state)
        for _, later in known[state]:
            more[later] = more.get(later, 0) + many
    return more
