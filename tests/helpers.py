"""What many tests share: plain second ways to work things out, small levels, and odd values."""

import itertools
import random

from timedoors import errors
from timedoors.play import Play

HALL = (3, [([0, 1], 2, 0), ([2], 0, 1), ([], 1, -1)])
BACK = (3, [([0], 1, 0), ([1], 2, -1), ([2], 2, -1)])
RELAY = (2, [([0], 0, 1), ([0], 1, -1)])
LOOP = (2, [([0], 1, 1), ([1], 0, 0), ([1], 1, -1)])


def nested(depth):
    value = []
    for _ in range(depth - 1):
        value = [value]
    return value


def odd_values():
    """Values of all kinds that [2] calls any value."""
    plain = [None, True, False, 0, 1, -1, 7, 10 ** 30 - 1, "", "0", "press", "text of\ttwo\nlines ~", [], (), {}]
    lists = [[None], [[]], [True], [0], [[0], [True]], [()], [{}], nested(30), ["", ""], [[[]]], [(0,)]]
    tuples = [(0,), ([],), ([], []), (0, []), (None, None), ([], [], [], []), ((), ()), (True, []), ("a", "b", "c")]
    dicts = [{0: []}, {"rooms": 1}, {(0, 1): [None]}]
    own = [errors.DoorError(), errors.InvalidNumber([1]), errors.NothingToUndo(), [errors.TooMany()],
           (errors.InvalidRoom(0), []), Play((1, [])), [Play((1, []))], ("press", Play((1, [])))]
    return plain + lists + tuples + dicts + own


def same(one, other):
    """Equal and of the same kinds throughout: a Boolean is no number, a tuple no list."""
    if type(one) is not type(other):
        return False
    if isinstance(one, (list, tuple)):
        return len(one) == len(other) and all(same(x, y) for x, y in zip(one, other))
    return one == other


def lists_in(value):
    found = []
    if isinstance(value, list):
        found.append(value)
    if isinstance(value, (list, tuple)):
        for item in value:
            found.extend(lists_in(item))
    return found


def subsets(rooms):
    """All sets of some rooms as lights, in Python's order."""
    rooms = sorted(rooms)
    lots = [list(lot) for size in range(len(rooms) + 1) for lot in itertools.combinations(rooms, size)]
    return sorted(lots)


def all_presses(rooms, ticks):
    """All presses of so many ticks; also all histories."""
    return [[list(lights) for lights in lots] for lots in itertools.product(subsets(range(rooms)), repeat=ticks)]


def presses_up_to(rooms, ticks):
    return [presses for many in range(ticks + 1) for presses in all_presses(rooms, many)]


def all_doors(rooms):
    return [(needs, room, shift) for needs in subsets(range(rooms)) for room in range(rooms) for shift in (-1, 0, 1)]


def small_levels():
    """All levels of one room with up to 3 unlike doors, and of two rooms with up to 2."""
    levels = []
    for rooms, most in ((1, 3), (2, 2)):
        for many in range(most + 1):
            for doors in itertools.combinations(all_doors(rooms), many):
                levels.append((rooms, list(doors)))
    return levels


def some_levels(seed, many, rooms, doors, shifts=(-1, 0, 1)):
    """Levels drawn by a generator with a told seed, so each run has the same ones."""
    draw = random.Random(seed)
    levels = []
    for _ in range(many):
        count = draw.randint(1, rooms)
        made = []
        for _ in range(draw.randint(0, doors)):
            needs = sorted(draw.sample(range(count), draw.randint(0, min(count, 2))))
            made.append((needs, draw.randrange(count), draw.choice(shifts)))
        levels.append((count, made))
    return levels


def some_presses(draw, rooms, ticks):
    return [sorted(draw.sample(range(rooms), draw.choice([0, 0, 1, min(2, rooms)]))) for _ in range(ticks)]


def plain_light(level, presses):
    """The least history that keeps, as sets: going over all doors and ticks until nothing is new."""
    lit = [set(lights) for lights in presses]
    again = True
    while again:
        again = False
        for tick in range(len(lit)):
            for needs, room, shift in level[1]:
                goal = tick + shift
                if set(needs) <= lit[tick] and 0 <= goal < len(lit) and room not in lit[goal]:
                    lit[goal].add(room)
                    again = True
    return [sorted(lights) for lights in lit]


def plainly_keeps(level, presses, history):
    if len(history) != len(presses):
        return False
    for tick, lights in enumerate(history):
        if not set(presses[tick]) <= set(lights):
            return False
        for needs, room, shift in level[1]:
            goal = tick + shift
            if set(needs) <= set(lights) and 0 <= goal < len(history) and room not in history[goal]:
                return False
    return True


def rights_of(level):
    return sorted({room for _, room, shift in level[1] if shift == 1})


def lefts_of(level):
    return sorted({room for _, room, shift in level[1] if shift == -1})


def plain_sent(level, lights, shift):
    return sorted({room for needs, room, by in level[1] if by == shift and set(needs) <= set(lights)})


def plain_line(level, presses, right, left):
    """The line of a table, from the light with what comes in pressed at the two ends."""
    if not presses:
        return right, left, left, right
    more = [list(lights) for lights in presses]
    more[0] = sorted({*more[0], *right})
    more[-1] = sorted({*more[-1], *left})
    lit = plain_light(level, more)
    return right, left, plain_sent(level, lit[0], -1), plain_sent(level, lit[-1], 1)


def plain_table(level, presses):
    return [plain_line(level, presses, right, left)
            for right in subsets(rights_of(level)) for left in subsets(lefts_of(level))]


def plain_rest(level, presses):
    """What presses with nothing behind them send left; of no ticks nothing."""
    return [(right, plain_line(level, presses, right, [])[2] if presses else [])
            for right in subsets(rights_of(level))]


def plain_front(level, presses):
    return [(left, plain_line(level, presses, [], left)[3] if presses else [])
            for left in subsets(lefts_of(level))]


def spread(runs):
    return [list(lights) for lights, many in runs for _ in range(many)]
