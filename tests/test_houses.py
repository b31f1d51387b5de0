"""[29], [30]: houses, walks, and what hands press and light."""

import itertools
import random
import unittest

from tests import wrong
from tests.helpers import same
from tests.plain_houses import (ALONE, BACK, CROSSED, FAR, SHUT, STILL, goals_of, plain_hands_light, plain_pressed,
                                small_houses, some_houses, some_walks)
from timedoors.errors import InvalidHouse, InvalidNumber, InvalidWalks
from timedoors.houses import hands_light, is_house, is_walk, pressed_by, steps_between
from timedoors.light import light


class Houses(unittest.TestCase):

    def test_29_houses(self):
        for house in [BACK, STILL, FAR, SHUT, ALONE, CROSSED, *small_houses(), *some_houses(29, 50)]:
            self.assertIs(is_house(house), True)
        for value in wrong.HOUSES:
            self.assertIs(is_house(value), False, value)

    def test_29_steps_in_any_order_and_equal_ones(self):
        level = (3, [])
        self.assertIs(is_house((level, [[], [0], []], [(2, 1, []), (0, 1, [2]), (0, 1, [2]), (0, 1, [0, 1])])), True)
        self.assertIs(is_house((level, [[0, 1, 2]], [])), True)

    def test_29_a_house_beyond_the_limits_is_a_house(self):
        level = (7, [([], room, 1) for room in range(7)] * 3)
        steps = [(place, goal, []) for place, goal in itertools.permutations(range(9), 2)]
        self.assertIs(is_house((level, [[6]] * 9, steps)), True)
        self.assertIs(is_walk((level, [[6]] * 9, steps), [8, 0] * 40), True)

    def test_29_walks_are_those_that_steps_lead_along(self):
        for house in [BACK, STILL, FAR, SHUT, ALONE, *some_houses(291, 30)]:
            places = range(len(house[1]))
            for length in range(1, 5):
                for walk in itertools.product(places, repeat=length):
                    wanted = all(goal in goals_of(house, place) for place, goal in zip(walk, walk[1:]))
                    self.assertIs(is_walk(house, list(walk)), wanted)
        for value in wrong.WALK:
            # The house of the wrong values has no step from 2 to 1, this one has.
            self.assertIs(is_walk(FAR, value), value in ([0, 1, 2, 1], [2, 1]), value)

    def test_29_steps_between_stand_in_order_each_once(self):
        for house in [BACK, FAR, *some_houses(292, 80)]:
            for place, goal in itertools.product(range(len(house[1])), repeat=2):
                wanted = []
                for start, end, needs in house[2]:
                    if (start, end) == (place, goal) and needs not in wanted:
                        wanted.append(needs)
                self.assertTrue(same(steps_between(house, place, goal), sorted(wanted)))
        level = (12, [])
        steps = [(0, 1, needs) for needs in ([2], [1, 3], [10], [], [2], [1], [0, 11], [1, 3])]
        self.assertEqual(steps_between((level, [[], []], steps), 0, 1), [[], [0, 11], [1], [1, 3], [2], [10]])
        self.assertEqual([steps_between((level, [[], []], steps), 1, 0), steps_between(SHUT, 0, 0)], [[], []])

    def test_29_a_place_is_refused_for_itself(self):
        for place, goal, told in ((2, 0, 2), (0, 2, 2), (True, -1, True), (0, False, False)):
            with self.assertRaises(InvalidNumber) as caught:
                steps_between(BACK, place, goal)
            self.assertIs(caught.exception.value, told)

    def test_30_presses_and_light_of_walks(self):
        draw = random.Random(30)
        for house in some_houses(30, 150):
            walks = some_walks(draw, house, draw.randint(0, 4), 4)
            self.assertTrue(same(pressed_by(house, walks), plain_pressed(house, walks)))
            self.assertTrue(same(hands_light(house, walks), plain_hands_light(house, walks)))
            self.assertTrue(same(hands_light(house, walks), light(house[0], pressed_by(house, walks))))

    def test_30_no_walks_one_place_and_unlike_lengths(self):
        self.assertEqual([pressed_by(FAR, []), hands_light(FAR, [])], [[], []])
        self.assertEqual([pressed_by(ALONE, [[0]]), pressed_by(SHUT, [[1]])], [[[0]], [[]]])
        self.assertEqual(pressed_by(FAR, [[0], [2, 2, 1], [0, 0]]), [[0, 1], [0, 1], []])
        self.assertEqual(hands_light(FAR, [[0], [1, 2]]), [[0, 2], [1]])

    def test_30_more_hands_light_no_less(self):
        draw = random.Random(301)
        for house in some_houses(301, 80):
            one, other = some_walks(draw, house, 2, 4), some_walks(draw, house, 2, 4)
            both = hands_light(house, one + other)
            for less in (hands_light(house, one), hands_light(house, other)):
                self.assertTrue(all(set(lights) <= set(more) for lights, more in zip(less, both)))

    def test_30_walks_are_refused_for_themselves(self):
        for walks, error in (([[0, 2]], InvalidWalks), ([[]], InvalidWalks), (([0],), InvalidWalks)):
            for function in (pressed_by, hands_light):
                with self.assertRaises(error) as caught:
                    function(BACK, walks)
                self.assertIs(caught.exception.value, walks)
        with self.assertRaises(InvalidHouse):
            pressed_by((BACK[0], [], []), [[0, 2]])


if __name__ == "__main__":
    unittest.main()
