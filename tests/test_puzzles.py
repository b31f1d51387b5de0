"""[36] to [39]: shortest walks, states and closed papers, against all walks gone through one by one."""

import itertools
import random
import unittest

from tests.helpers import lefts_of, plain_front, plain_light, plain_sent, rights_of, same, subsets
from tests.plain_houses import (ALONE, BACK, CROSSED, FAR, SHUT, STILL, can_go, goals_of, plain_opens, plain_pressed,
                                playable_walks, plainly_playable, plain_hands_light, small_houses, some_houses,
                                some_walks, walks_from)
from timedoors.errors import InvalidNumber, InvalidRoom, InvalidWalk
from timedoors.puzzles import (is_no_walk_paper, no_walk_paper, shortest_lighting, shortest_walk, state_of,
                               states_met)
from timedoors.rests import front_behind, lit_between

LONGEST = 4
RISING = [2, 3, 6, 20, 168]
HOUSES = small_houses()[::2] + some_houses(36, 120) + some_houses(361, 40, 4, 8, 4, 8)


def plain_state(house, walk):
    """The state of a walk by the light of its ticks, with what is sent to its last tick pressed there."""
    level = house[0]
    pressed = plain_pressed(house, [walk])
    is_open = []
    for coming in subsets(lefts_of(level)):
        more = pressed[:-1] + [sorted({*pressed[-1], *coming})]
        if all(plain_opens(house, plain_light(level, more), walk)):
            is_open.append(coming)
    return walk[-1], plain_front(level, pressed[:-1]), is_open


def key_of(state):
    return repr(state)


def plain_states(house, start):
    """The states of all walks whose lots are not empty, by one walk of each state."""
    met = {}
    walks = [[start]]
    while walks:
        walk = walks.pop()
        state = plain_state(house, walk)
        if state[2] and key_of(state) not in met:
            met[key_of(state)] = state
            walks.extend(walk + [goal] for goal in goals_of(house, walk[-1]))
    return sorted(met.values())


def first_of_shortest(house, start, is_found):
    for length in range(LONGEST + 1):
        for walk in walks_from(house, start, length):
            if plainly_playable(house, [walk]) and is_found(walk):
                return walk
    return None


class Shortest(unittest.TestCase):

    def agrees(self, house, start, told, is_found):
        """The told walk is the first of the shortest ones, as far as all walks are gone through."""
        if told is None or len(told) > LONGEST + 1:
            self.assertIsNone(first_of_shortest(house, start, is_found))
        else:
            self.assertTrue(same(told, first_of_shortest(house, start, is_found)))
        if told is not None:
            self.assertTrue(told[0] == start and plainly_playable(house, [told]) and is_found(told))
            self.assertLessEqual(len(told), len(states_met(house, start)))

    def test_36_the_shortest_walk_is_the_first_of_all_walks(self):
        told = {None: 0}
        for house in HOUSES:
            for start, goal in itertools.product(range(len(house[1])), repeat=2):
                walk = shortest_walk(house, start, goal)
                self.agrees(house, start, walk, lambda other: other[-1] == goal)
                length = None if walk is None else len(walk)
                told[length] = told.get(length, 0) + 1
        self.assertTrue(told[None] > 20 and told[2] > 20 and told[3] > 5)

    def test_36_the_shortest_lighting_is_the_first_of_all_walks(self):
        lengths = set()
        for house in HOUSES:
            for start, room in itertools.product(range(len(house[1])), range(house[0][0])):

                def is_lit(walk):
                    return room in plain_hands_light(house, [walk])[-1]

                walk = shortest_lighting(house, start, room)
                self.agrees(house, start, walk, is_lit)
                lengths.add(None if walk is None else len(walk))
        self.assertTrue({None, 1, 2, 3} <= lengths)

    def test_36_start_and_goal_equal(self):
        for house in (BACK, STILL, FAR, SHUT, ALONE, CROSSED):
            for place in range(len(house[1])):
                self.assertEqual(shortest_walk(house, place, place), [place])

    def test_36_edges(self):
        self.assertEqual([shortest_walk(SHUT, 0, 1), shortest_walk(SHUT, 1, 0), shortest_walk(STILL, 0, 1)], [None] * 3)
        self.assertEqual([shortest_lighting(ALONE, 0, 0), shortest_lighting(SHUT, 0, 0)], [[0], None])
        # The hand has to wait for what it lit itself, and the walk in order goes by the lower place.
        wait = ((2, [([0], 1, 1)]), [[0], [], []], [(0, 1, [1]), (0, 2, [1]), (1, 2, []), (2, 1, [])])
        self.assertEqual([shortest_walk(wait, 0, 1), shortest_walk(wait, 0, 2)], [[0, 0, 1], [0, 0, 2]])
        self.assertEqual(shortest_lighting(wait, 1, 1), None)
        self.assertEqual(shortest_lighting(wait, 0, 1), [0, 0])

    def test_36_wrong_places_and_rooms(self):
        for function, values, error, told in (
                (shortest_walk, (BACK, 2, 9), InvalidNumber, 2), (shortest_walk, (BACK, 0, 9), InvalidNumber, 9),
                (shortest_walk, (BACK, 0, True), InvalidNumber, True), (shortest_lighting, (BACK, 0, 2), InvalidRoom, 2),
                (shortest_lighting, (BACK, -1, 2), InvalidNumber, -1)):
            with self.assertRaises(error) as caught:
                function(*values)
            self.assertIs(caught.exception.value, told)


class States(unittest.TestCase):

    def test_37_the_state_of_each_walk(self):
        draw = random.Random(37)
        for house in HOUSES + some_houses(37, 60, 4, 7):
            for walk in some_walks(draw, house, 6, 5):
                told = state_of(house, walk)
                self.assertTrue(same(told, plain_state(house, walk)), (house, walk))
                self.assertEqual([] in told[2], plainly_playable(house, [walk]))

    def test_37_one_place_alone_has_all_and_more_within_is_open(self):
        draw = random.Random(371)
        for house in HOUSES:
            lots = subsets(lefts_of(house[0]))
            for place in range(len(house[1])):
                self.assertEqual(state_of(house, [place])[2], lots)
            for walk in some_walks(draw, house, 4, 5):
                is_open = state_of(house, walk)[2]
                for less, more in itertools.product(is_open, lots):
                    self.assertTrue(more in is_open or not set(less) <= set(more))

    def test_37_walks_of_one_state_go_on_to_one_state(self):
        for house in HOUSES[::3]:
            later = {}
            for start, length in itertools.product(range(len(house[1])), range(LONGEST)):
                for walk in walks_from(house, start, length):
                    follow = [state_of(house, walk + [goal]) for goal in goals_of(house, walk[-1])]
                    self.assertEqual(later.setdefault(key_of(state_of(house, walk)), follow), follow)

    def test_37_a_walk_is_refused_for_itself(self):
        for walk in ([], [0, 2], [True], (0,), None, [0, 0, 5]):
            with self.assertRaises(InvalidWalk) as caught:
                state_of(FAR, walk)
            self.assertIs(caught.exception.value, walk)
        self.assertEqual(state_of(SHUT, [0, 1]), (1, [([], [])], []))

    def test_38_the_states_of_all_walks_in_order(self):
        for house in HOUSES:
            for start in range(len(house[1])):
                self.assertTrue(same(states_met(house, start), plain_states(house, start)))

    def test_38_each_walk_has_one_of_them_exactly_if_some_lot_is_open(self):
        for house in HOUSES[::4]:
            for start in range(len(house[1])):
                met = states_met(house, start)
                self.assertEqual(met, sorted(met))
                for walk in (walk for length in range(LONGEST + 1) for walk in walks_from(house, start, length)):
                    state = plain_state(house, walk)
                    self.assertEqual(state in met, state[2] != [])

    def test_38_there_is_a_walk_exactly_if_a_state_stands_there(self):
        for house in HOUSES:
            for start, goal in itertools.product(range(len(house[1])), repeat=2):
                stands = any(place == goal and [] in is_open for place, _, is_open in states_met(house, start))
                self.assertEqual(shortest_walk(house, start, goal) is not None, stands)

    def test_38_at_most_so_many(self):
        for house in HOUSES + some_houses(38, 40, 4, 8):
            lefts, rights = len(lefts_of(house[0])), len(rights_of(house[0]))
            most = len(house[1]) * RISING[lefts] ** rights * (RISING[lefts] - 1)
            for start in range(len(house[1])):
                self.assertLessEqual(len(states_met(house, start)), most)


class Papers(unittest.TestCase):

    def plain_later(self, house, state, goal):
        """A state gone on to a place, word by word, by the lights between two ticks."""
        level, plates, _ = house
        place, front, is_open = state
        onward = front_behind(level, front, plates[place])
        later = []
        for coming in subsets(lefts_of(level)):
            at_goal = lit_between(level, onward, plates[goal], [(right, coming) for right in subsets(rights_of(level))])
            sent = plain_sent(level, at_goal, -1)
            at_place = lit_between(level, front, plates[place], [(right, sent) for right in subsets(rights_of(level))])
            if sent in is_open and can_go(house, at_place, place, goal):
                later.append(coming)
        return goal, onward, later

    def plainly(self, house, start, goal, states):
        if plain_state(house, [start]) not in states:
            return False
        for state in states:
            if state[0] == goal and [] in state[2]:
                return False
            for then in goals_of(house, state[0]):
                later = self.plain_later(house, state, then)
                if later[2] and later not in states:
                    return False
        return True

    def cases(self):
        return [(house, start, goal) for house in HOUSES
                for start, goal in itertools.product(range(len(house[1])), repeat=2)]

    def test_39_there_is_a_paper_exactly_if_there_is_no_walk(self):
        told = []
        for house, start, goal in self.cases():
            paper = no_walk_paper(house, start, goal)
            states = states_met(house, start)
            self.assertEqual(paper is None, shortest_walk(house, start, goal) is not None)
            self.assertIs(is_no_walk_paper(house, start, goal, states), paper is not None)
            if paper is not None:
                self.assertTrue(same(paper, states))
                told.append(len(paper))
        self.assertGreater(len(told), 50)
        self.assertGreater(max(told), 5)

    def test_39_any_order_and_equal_ones(self):
        draw = random.Random(39)
        for house, start, goal in self.cases():
            paper = no_walk_paper(house, start, goal)
            if paper is not None:
                shuffled = paper + paper[:2]
                draw.shuffle(shuffled)
                self.assertIs(is_no_walk_paper(house, start, goal, shuffled), True)

    def test_39_without_one_of_them_it_is_none(self):
        for house, start, goal in self.cases():
            paper = no_walk_paper(house, start, goal)
            for at in range(len(paper or [])):
                self.assertIs(is_no_walk_paper(house, start, goal, paper[:at] + paper[at + 1:]), False)

    def drawn_state(self, draw, house):
        """A tuple of the form of a state, of a walk or not."""
        level, plates, _ = house
        lots = subsets(lefts_of(level))
        front = plain_front(level, [[room for room in range(level[0]) if draw.random() < 0.3]
                                    for _ in range(draw.randint(0, 2))])
        chosen = [lot for lot in lots if draw.random() < 0.6] or [draw.choice(lots)]
        return draw.randrange(len(plates)), front, chosen

    def test_39_tuples_that_no_walk_has_are_judged_one_by_one(self):
        draw = random.Random(391)
        unlike = {True: 0, False: 0}
        for house, start, goal in self.cases() * 3:
            states = no_walk_paper(house, start, goal) or states_met(house, start)
            more = [self.drawn_state(draw, house) for _ in range(draw.randint(1, 2))]
            # Some are gone on from until nothing is new, so that they hang together again.
            at = 0
            while at < len(more) and len(more) < 40 and draw.random() < 0.97:
                for then in goals_of(house, more[at][0]):
                    later = self.plain_later(house, more[at], then)
                    if later[2] and later not in more:
                        more.append(later)
                at += 1
            told = is_no_walk_paper(house, start, goal, states + more)
            self.assertIs(told, self.plainly(house, start, goal, states + more), (house, start, goal, more))
            unlike[told] += 1
        self.assertTrue(unlike[True] > 30 and unlike[False] > 30)

    def test_39_other_values_are_refused_by_false(self):
        good = no_walk_paper(SHUT, 0, 1)
        self.assertEqual(good, [(0, [([], [])], [[]])])
        for value in (None, [], {}, "", tuple(good), good[0], [list(good[0])], [None], good + [None], good + [()],
                      good + [(1, [([], [])], [])], good + [(2, [([], [])], [[]])], good + [(True, [([], [])], [[]])],
                      good + [(0, [], [[]])], good + [(0, [([], []), ([], [])], [[]])], good + [(0, [([], [0])], [[]])],
                      good + [(0, ([], []), [[]])], good + [(0, [([], [])], [[], []])], good + [(0, [([], [])], [[0]])],
                      good + [(0, [([], [])], ([],))], good + [(0, [([], [])], [()])], good + [(0, [([], [])])],
                      good + [(0, [([], [])], None)], good + [(0, [[[], []]], [[]])], [(0, [([], [])], [[0]])]):
            self.assertIs(is_no_walk_paper(SHUT, 0, 1, value), False, value)

    def test_39_lots_stand_in_order_and_fronts_rise(self):
        house = ((2, [([], 0, -1), ([], 1, -1), ([0], 1, 1)]), [[], []], [(0, 1, [0])])
        lots = [[], [0], [0, 1], [1]]
        start = state_of(house, [0])
        self.assertEqual(start, (0, [(lot, []) for lot in lots], lots))
        paper = states_met(house, 1)
        self.assertEqual(no_walk_paper(house, 1, 0), paper)
        for wrong in ([[0], []], [[], [0, 1], [0]], [[1], [0, 1]], [[0], [0]]):
            self.assertIs(is_no_walk_paper(house, 1, 0, paper + [(1, start[1], wrong)]), False)
        for row in ([[], [1], [1], [1]], [[1], [1], [1], [1]]):
            front = list(zip(lots, row))
            value = paper + [(1, front, lots), *(state for state in self.closed(house, (1, front, lots)))]
            self.assertIs(is_no_walk_paper(house, 1, 0, value), True)
        for row in ([[1], [], [1], [1]], [[], [1], [], []], [[], [0], [0], []], [[], [True], [1], []]):
            self.assertIs(is_no_walk_paper(house, 1, 0, paper + [(1, list(zip(lots, row)), lots)]), False)

    def closed(self, house, state):
        states = [state]
        for one in states:
            for then in goals_of(house, one[0]):
                later = self.plain_later(house, one, then)
                if later[2] and later not in states:
                    states.append(later)
        return states

    def test_39_a_paper_is_of_its_own_start_and_goal(self):
        self.assertIs(is_no_walk_paper(SHUT, 1, 0, no_walk_paper(SHUT, 0, 1)), False)
        self.assertIs(is_no_walk_paper(SHUT, 0, 0, no_walk_paper(SHUT, 0, 1)), False)
        both = no_walk_paper(SHUT, 0, 1) + no_walk_paper(SHUT, 1, 0)
        self.assertEqual([is_no_walk_paper(SHUT, start, goal, both) for start in (0, 1) for goal in (0, 1)], [False] * 4)

    def test_39_walks_that_need_a_long_way_leave_no_paper(self):
        for house in (BACK, FAR):
            goal = len(house[1]) - 1
            self.assertIsNone(no_walk_paper(house, 0, goal))
            self.assertTrue(playable_walks(house, 0, goal, 3))


if __name__ == "__main__":
    unittest.main()
