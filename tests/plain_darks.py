"""Small dark levels, and histories gone through one by one: a plain second way to what dark needs do."""

import itertools
import random

from tests.helpers import all_presses, subsets

NIGHT = (3, [([0], [], 1, 1), ([], [1], 2, -1)])
CHEAT = (2, [([0], [], 1, 1), ([], [1], 0, -1)])
CHEATED = (1, [([], [0], 0, 0)])
EITHER = (2, [([], [0], 1, 0), ([], [1], 0, 0)])
TURNED = (2, [([], [0], 1, 1), ([1], [], 0, -1)])
TURNS = (3, [([], [1], 2, 0), ([], [2], 1, 0), ([1], [], 0, 1), ([2], [], 0, -1)])
# Of room 0 and room 1 one is lit at each tick, and once it is room 1, it stays so: one more history than ticks.
STOPPING = (2, [([], [1], 0, 0), ([], [0], 1, 0), ([1], [], 1, 1)])
# In each finite play the last tick lacks room 0, which shows in room 2 at all ticks; in the endless one it never does.
ENDING = (3, [([], [], 0, -1), ([], [0], 1, 0), ([1], [], 2, -1), ([2], [], 2, -1)])


def all_dark_doors(rooms):
    lots = subsets(range(rooms))
    return [(needs, darks, room, shift) for needs in lots for darks in lots for room in range(rooms)
            for shift in (-1, 0, 1)]


def small_dark_levels(step=1):
    """All dark levels of one room with up to 2 unlike doors, of two rooms with one, and each so-manieth with two."""
    levels = [(1, list(lot)) for many in range(3) for lot in itertools.combinations(all_dark_doors(1), many)]
    levels += [(2, [door]) for door in all_dark_doors(2)]
    pairs = [(2, list(lot)) for lot in itertools.combinations(all_dark_doors(2), 2)]
    return levels + pairs[::step]


def some_dark_levels(seed, many, rooms, doors, shifts=(-1, 0, 1)):
    """Dark levels drawn by a generator with a told seed, so each run has the same ones."""
    draw = random.Random(seed)
    levels = []
    for _ in range(many):
        count = draw.randint(1, rooms)
        made = []
        for _ in range(draw.randint(0, doors)):
            needs = sorted(draw.sample(range(count), draw.choice((0, 0, 1, min(2, count)))))
            darks = sorted(draw.sample(range(count), draw.choice((0, 1, 1, min(2, count)))))
            made.append((needs, darks, draw.randrange(count), draw.choice(shifts)))
        levels.append((count, made))
    return levels


def layered_levels(seed, many, rooms, doors, shifts=(-1, 0, 1)):
    """Dark levels that have layers: these are drawn first, and then doors that go up by them."""
    draw = random.Random(seed)
    levels = []
    for _ in range(many):
        counts = [draw.randrange(3) for _ in range(draw.randint(1, rooms) if draw.random() < 0.3 else rooms)]
        made = []
        for _ in range(draw.randint(1, doors)):
            room = draw.randrange(len(counts))
            below = [other for other, count in enumerate(counts) if count < counts[room]]
            upto = [other for other, count in enumerate(counts) if count <= counts[room]]
            needs = sorted(draw.sample(upto, draw.choice((0, 0, 1, min(2, len(upto))))))
            darks = sorted(draw.sample(below, min(draw.choice((0, 1, 1, 2)), len(below))))
            made.append((needs, darks, room, draw.choice(shifts)))
        levels.append((len(counts), made))
    return levels


def linked_levels(seed, many, rooms, doors):
    """Dark levels in which each door has one need, lit or dark, of another room: these have long rings."""
    draw = random.Random(seed)
    levels = []
    for _ in range(many):
        made = []
        for _ in range(draw.randint(2, doors)):
            one, other = draw.sample(range(rooms), 2)
            made.append(draw.choice([([one], [], other, 0), ([one], [], other, 1), ([], [one], other, -1)]))
        levels.append((rooms, made))
    return levels


def wavering_levels(seed, many, rooms, doors):
    """Dark levels with pairs of rooms each of which is lit where the other one is dark: these let guesses waver."""
    draw = random.Random(seed)
    levels = []
    for _ in range(many):
        count = draw.randint(min(2, rooms), rooms)
        one, other = draw.sample(range(count), 2)
        shift = draw.choice((-1, 0, 0, 0, 1))
        made = [([], [one], other, shift), ([], [other], one, -shift)]
        for _ in range(draw.randint(0, doors - 2)):
            lots = [sorted(draw.sample(range(count), draw.choice((0, 0, 1, 1)))) for _ in range(2)]
            made.append((lots[0] or [draw.randrange(count)], lots[1], draw.randrange(count), draw.choice((-1, 0, 1))))
        draw.shuffle(made)
        levels.append((count, made))
    return levels


def cheating_levels(seed, many, rooms, doors):
    """Dark levels in which a room, where others are lit, is lit just where it is dark: these have paradoxes."""
    draw = random.Random(seed)
    levels = []
    for _ in range(many):
        count = draw.randint(min(2, rooms), rooms)
        one, other = draw.sample(range(count), 2)
        shift = draw.choice((-1, 0, 1))
        made = [([one], [other], other, 0)] if shift == 0 else [([one], [other], one, shift), ([one], [], other, -shift)]
        for _ in range(draw.randint(0, doors - 2)):
            lots = [sorted(draw.sample(range(count), draw.choice((0, 1, 1)))) for _ in range(2)]
            made.append((lots[0], lots[1] if draw.random() < 0.3 else [], draw.randrange(count), draw.choice((-1, 0, 1))))
        draw.shuffle(made)
        levels.append((count, made))
    return levels


def plain_opened(level, presses, history):
    """What comes from the presses by the doors that a history opens: over and over, until nothing is new."""
    lit = [set(lights) for lights in presses]
    again = True
    while again:
        again = False
        for tick in range(len(lit)):
            for needs, darks, room, shift in level[1]:
                goal = tick + shift
                if set(darks) & set(history[tick]) or not set(needs) <= lit[tick]:
                    continue
                if 0 <= goal < len(lit) and room not in lit[goal]:
                    lit[goal].add(room)
                    again = True
    return [sorted(lights) for lights in lit]


def plain_founded(level, presses):
    """All founded histories, in Python's order: each history that there could be is looked at."""
    return [history for history in all_presses(level[0], len(presses))
            if plain_opened(level, presses, history) == history]


def plainly_layers(level, counts):
    needed = all(counts[need] <= counts[room] for needs, _, room, _ in level[1] for need in needs)
    return needed and all(counts[dark] < counts[room] for _, darks, room, _ in level[1] for dark in darks)


def plain_layers(level, most):
    """All layers with counts up to a greatest one."""
    return [list(counts) for counts in itertools.product(range(most + 1), repeat=level[0])
            if plainly_layers(level, counts)]


def plain_layered(level, presses, counts):
    """The history by layers: for each count the doors to its rooms, by what is told of the lower ones."""
    lit = [list(lights) for lights in presses]
    for count in sorted(set(counts)):
        doors = [door for door in level[1] if counts[door[2]] == count]
        lit = plain_opened((level[0], doors), lit, lit)
    return lit


def plain_rings(level):
    """All dark rings, shorter ones first, then in Python's order."""
    rings = []
    for many in range(1, level[0] + 1):
        for ring in itertools.permutations(range(level[0]), many):
            if ring[0] == min(ring) and plainly_ring(level, ring):
                rings.append(list(ring))
    return rings


def plainly_ring(level, ring):
    by_darks = 0
    for one, other in zip(ring, ring[1:] + ring[:1]):
        doors = [door for door in level[1] if door[2] == other]
        if not any(one in needs + darks for needs, darks, _, _ in doors):
            return False
        by_darks += any(one in darks for _, darks, _, _ in doors)
    return by_darks > 0


def is_within(one, other):
    """Whether a history has no room lit that another one has dark."""
    return all(set(lights) <= set(more) for lights, more in zip(one, other))
