"""How many playable walks there are, and which one has a number."""

from timedoors.checks import check_count, check_house, check_walk
from timedoors.errors import InvalidWalk
from timedoors.grounds import Ground, is_playable, walked
from timedoors.puzzles import check_way, states_from


def how_many_walks(house, start, goal, length):
    check_way(house, start, goal)
    check_count(length)
    ground = Ground(house)
    return ways_to(states_from(ground, start), goal, length)[length][ground.begin(start)]


def ways_to(states, goal, length):
    """For each number of steps up to a length: in how many ways each state goes on to a playable walk to a goal."""
    ways = [{state: 1 if state[0] == goal and is_playable(state) else 0 for state in states}]
    for _ in range(length):
        less = ways[-1]
        ways.append({state: sum([less[later] for _, later in follow]) for state, follow in states.items()})
    return ways


def walk_numbered(house, start, goal, length, number):
    check_way(house, start, goal)
    check_count(length)
    check_count(number)
    ground = Ground(house)
    states = states_from(ground, start)
    ways = ways_to(states, goal, length)
    state = ground.begin(start)
    if number >= ways[length][state]:
        return None
    walk = [start]
    for left in range(length - 1, -1, -1):
        state, number = chosen(states[state], ways[left], number)
        walk.append(state[0])
    return walk


def chosen(follow, ways, number):
    """The state by which the walk with a number goes on, and the number that it has among those that do so."""
    for _, later in follow:
        if number < ways[later]:
            return later, number
        number -= ways[later]
    return None, number


def number_of_walk(house, walk):
    check_house(house)
    check_walk(house, walk)
    ground = Ground(house)
    if not is_playable(walked(ground, walk)):
        raise InvalidWalk(walk)
    states = states_from(ground, walk[0])
    ways = ways_to(states, walk[-1], len(walk) - 1)
    state = ground.begin(walk[0])
    number = 0
    for tick in range(1, len(walk)):
        less = ways[len(walk) - 1 - tick]
        number += sum([less[later] for goal, later in states[state] if goal < walk[tick]])
        state = ground.gone_on(state, walk[tick])
    return number
