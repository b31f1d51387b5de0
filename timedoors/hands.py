"""Hands: which walks can be walked at all, by doors that they themselves light later, too."""

from timedoors.checks import check_count, check_house, check_tick, check_walks
from timedoors.errors import InvalidWalk, InvalidWalks
from timedoors.houses import masks_of_walks, needs_between, presses_of_walks
from timedoors.kinds import fits_counts, fits_stays
from timedoors.machine import Machine
from timedoors.masks import mask_of
from timedoors.meeting import front_after, no_front, no_rest, rests_from, settle_between
from timedoors.spread import light_masks
from timedoors.stretches import join, no_ticks, repeated


def open_steps(house, walks, number):
    check_house(house)
    check_walks(house, walks)
    check_tick(len(walks), number)
    lit = masks_of_walks(house, walks)
    return [is_open_at(house, lit, walks[number], tick) for tick in range(len(walks[number]) - 1)]


def is_open_at(house, lit, walk, tick):
    """Whether a walk is open at a tick, not its last one, with a mask lit at each tick."""
    return can_go(house, lit[tick], walk[tick], walk[tick + 1])


def can_go(house, mask, place, goal):
    if place == goal:
        return True
    return any([mask & needs == needs for needs in needs_between(house, place, goal)])


def first_shut_tick(house, lit, walk):
    for tick in range(len(walk) - 1):
        if not is_open_at(house, lit, walk, tick):
            return tick
    return None


def first_shut(house, walks):
    check_house(house)
    check_walks(house, walks)
    shut = shut_walks(house, walks, list(range(len(walks))))
    return shut[0] if len(shut) > 0 else None


def shut_walks(house, walks, numbers):
    """The walks with these numbers that are shut in the light of just these, with their first shut ticks."""
    lit = masks_of_walks(house, [walks[number] for number in numbers])
    ticks = [(number, first_shut_tick(house, lit, walks[number])) for number in numbers]
    return [(number, tick) for number, tick in ticks if tick is not None]


def rounds_of_leaving(house, walks):
    """The numbers of what is left in the end, and what is left out in each round."""
    left = list(range(len(walks)))
    rounds = []
    shut = shut_walks(house, walks, left)
    while len(shut) > 0:
        rounds.append(shut)
        out = [number for number, _ in shut]
        left = [number for number in left if number not in out]
        shut = shut_walks(house, walks, left)
    return left, rounds


def greatest_playable(house, walks):
    check_house(house)
    check_walks(house, walks)
    left, _ = rounds_of_leaving(house, walks)
    return left


def why_unplayable(house, walks):
    check_house(house)
    check_walks(house, walks)
    _, rounds = rounds_of_leaving(house, walks)
    return rounds


def earned(house, walks):
    check_house(house)
    check_walks(house, walks)
    come = [1 for _ in walks]
    further = come_further(house, walks, come)
    while further != come:
        come = further
        further = come_further(house, walks, come)
    return come


def come_further(house, walks, come):
    """How many places each hand comes to by the light of what all have walked so far."""
    lit = masks_of_walks(house, [walk[:many] for walk, many in zip(walks, come)])
    return [come_by(house, lit, walk, many) for walk, many in zip(walks, come)]


def come_by(house, lit, walk, many):
    while many < len(walk) and many <= len(lit) and is_open_at(house, lit, walk, many - 1):
        many += 1
    return many


def opened_by(house, walks, number, tick):
    check_house(house)
    check_walks(house, walks)
    check_tick(len(walks), number)
    check_tick(len(walks[number]) - 1, tick)
    return ticks_needed(house, first_lights(house, walks), walks[number], tick)


def first_lights(house, walks):
    """For each number of first ticks the light of their presses alone."""
    presses = presses_of_walks(house, walks)
    return [light_masks(house[0], presses[:many]) for many in range(len(presses) + 1)]


def ticks_needed(house, lights, walk, tick):
    """How many first ticks open a walk at a tick: 0 if the hand stays, `None` if all together do not."""
    if walk[tick] == walk[tick + 1]:
        return 0
    for many in range(tick + 1, len(lights)):
        if is_open_at(house, lights[many], walk, tick):
            return many
    return None


def debts(house, walks):
    check_house(house)
    check_walks(house, walks)
    lights = first_lights(house, walks)
    owed = []
    for number, walk in enumerate(walks):
        for tick in range(len(walk) - 1):
            many = ticks_needed(house, lights, walk, tick)
            if many is not None and many > tick + 1:
                owed.append((number, tick, many))
    return owed


def put_off(walks, ticks):
    if not isinstance(walks, list) or not all([fits_counts(walk) and len(walk) > 0 for walk in walks]):
        raise InvalidWalks(walks)
    check_count(ticks)
    return [walk[:1] * ticks + walk for walk in walks]


def are_stays(house, value):
    check_house(house)
    return fits_stays(house, value)


def far_steps(house, stays):
    check_house(house)
    if not fits_stays(house, stays):
        raise InvalidWalk(stays)
    level, plates, _ = house
    machine = Machine(level)
    pressed = [mask_of(plates[place]) for place, _ in stays]
    tables = [table_of_stay(machine, mask, many) for mask, (_, many) in zip(pressed, stays)]
    rests = rests_from(machine, tables, no_rest(machine))
    front = no_front(machine)
    told = []
    for at in range(len(stays) - 1):
        place, many = stays[at]
        ahead = front_after(machine, front, table_of_stay(machine, pressed[at], many - 1))
        lit, _, _ = settle_between(machine, ahead, pressed[at], rests[at + 1])
        told.append(can_go(house, lit, place, stays[at + 1][0]))
        front = front_after(machine, front, tables[at])
    return told


def table_of_stay(machine, pressed, many):
    return repeated(machine, machine.table_of_tick(pressed), many, no_ticks(machine), join)
