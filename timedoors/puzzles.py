"""Puzzles: the shortest playable walks, and papers where there are none, by going from state to state."""

from timedoors.checks import check_house, check_room, check_stand, check_walk
from timedoors.grounds import Ground, is_playable, state_in, walked
from timedoors.search import all_states, first_marks


def check_way(house, start, goal):
    check_house(house)
    check_stand(house, start)
    check_stand(house, goal)


def shortest_walk(house, start, goal):
    check_way(house, start, goal)

    def is_there(state):
        return state[0] == goal and is_playable(state)

    return first_walk(Ground(house), start, is_there)


def shortest_lighting(house, start, room):
    check_house(house)
    check_stand(house, start)
    check_room(house[0], room)
    ground = Ground(house)

    def is_lighting(state):
        return is_playable(state) and ground.is_lit(state, room)

    return first_walk(ground, start, is_lighting)


def first_walk(ground, start, is_found):

    def follow(state):
        return ground.follow(state)

    goals = first_marks(ground.begin(start), follow, is_found)
    return None if goals is None else [start] + goals


def state_of(house, walk):
    check_house(house)
    check_walk(house, walk)
    ground = Ground(house)
    return ground.told(walked(ground, walk))


def states_from(ground, start):
    """All states that are met from a place on, each with what follows it."""

    def follow(state):
        return ground.follow(state)

    return all_states(ground.begin(start), follow)


def states_met(house, start):
    check_house(house)
    check_stand(house, start)
    ground = Ground(house)
    return told_states(ground, states_from(ground, start))


def told_states(ground, states):
    return sorted([ground.told(state) for state in states])


def no_walk_paper(house, start, goal):
    check_way(house, start, goal)
    ground = Ground(house)
    states = states_from(ground, start)
    if any([state[0] == goal and is_playable(state) for state in states]):
        return None
    return told_states(ground, states)


def is_no_walk_paper(house, start, goal, value):
    check_way(house, start, goal)
    if not isinstance(value, list):
        return False
    ground = Ground(house)
    states = {}
    for told in value:
        state = state_in(house, ground, told)
        if state is None or state[0] == goal and is_playable(state):
            return False
        states[state] = True
    if len(states) == 0 or ground.begin(start) not in states:
        return False
    return all([later in states for state in states for _, later in ground.follow(state)])
