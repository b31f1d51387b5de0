"""Small houses, and walks gone through one by one: a plain second way to what hands can do."""

import itertools
import random

from tests.helpers import plain_light, some_levels

BACK = ((2, [([0], 1, -1)]), [[], [0]], [(0, 1, [1]), (1, 0, [])])
STILL = ((2, [([0], 1, 1)]), [[], [0]], [(0, 1, [1]), (1, 0, [])])
FAR = ((3, [([0], 1, 1), ([1], 2, -1), ([2], 2, 0)]), [[0], [], [1]], [(0, 1, []), (1, 2, [2]), (2, 1, [])])
SHUT = ((1, []), [[], []], [(0, 1, [0])])
ALONE = ((1, []), [[0]], [])
# Each of two hands opens the way of the other one by where it comes to.
CROSSED = (
    (4, [([0], 1, -1), ([2], 3, -1)]), [[], [0], [], [2]], [(0, 1, [3]), (2, 3, [1])])


def some_lights(draw, rooms):
    return sorted(draw.sample(range(rooms), draw.choice((0, 1, 1, min(2, rooms)))))


def some_houses(seed, many, rooms=3, doors=5, places=3, steps=6):
    """Houses drawn by a generator with a told seed, so each run has the same ones."""
    draw = random.Random(seed)
    houses = []
    for level in some_levels(seed, many, rooms, doors):
        count = draw.randint(2, places)
        made = []
        for _ in range(draw.randint(1, steps)):
            place, goal = draw.sample(range(count), 2)
            made.append((place, goal, some_lights(draw, level[0])))
        houses.append((level, [some_lights(draw, level[0]) for _ in range(count)], made))
    return houses


def small_houses():
    """All houses of one room, of two places, and of a level with at most two doors, and with one or two steps."""
    doors = [(needs, 0, shift) for needs in ([], [0]) for shift in (-1, 0, 1)]
    levels = [(1, list(lot)) for many in range(3) for lot in itertools.combinations(doors, many)]
    ways = [[(0, 1, [0])], [(0, 1, [0]), (1, 0, [0])], [(0, 1, []), (1, 0, [0])]]
    return [(level, [one, other], steps) for level in levels for one in ([], [0]) for other in ([], [0])
            for steps in ways]


def goals_of(house, place):
    return sorted({place, *(goal for start, goal, _ in house[2] if start == place)})


def walks_from(house, start, length):
    """All walks from a place on with so many steps, in Python's order."""
    walks = [[start]]
    for _ in range(length):
        walks = [walk + [goal] for walk in walks for goal in goals_of(house, walk[-1])]
    return walks


def some_walks(draw, house, many, length):
    walks = []
    for _ in range(many):
        walk = [draw.randrange(len(house[1]))]
        for _ in range(draw.randint(0, length)):
            walk.append(draw.choice(goals_of(house, walk[-1])))
        walks.append(walk)
    return walks


def plain_pressed(house, walks):
    ticks = max((len(walk) for walk in walks), default=0)
    return [sorted({room for walk in walks if tick < len(walk) for room in house[1][walk[tick]]})
            for tick in range(ticks)]


def plain_hands_light(house, walks):
    return plain_light(house[0], plain_pressed(house, walks))


def can_go(house, lights, place, goal):
    return place == goal or any(
        set(needs) <= set(lights) for start, end, needs in house[2] if (start, end) == (place, goal))


def plain_opens(house, lit, walk):
    return [can_go(house, lit[tick], walk[tick], walk[tick + 1]) for tick in range(len(walk) - 1)]


def plainly_playable(house, walks):
    lit = plain_hands_light(house, walks)
    return all(all(plain_opens(house, lit, walk)) for walk in walks)


def playable_walks(house, start, goal, length):
    return [walk for walk in walks_from(house, start, length) if walk[-1] == goal and plainly_playable(house, [walk])]
