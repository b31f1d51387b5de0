"""[40]: how many playable walks there are and which one has a number, against all walks gone through in order."""

import itertools
import random
import unittest

from tests.helpers import same
from tests.plain_houses import (ALONE, BACK, CROSSED, FAR, SHUT, STILL, playable_walks, plainly_playable, small_houses,
                                some_houses, some_walks)
from timedoors.counting import how_many_walks, number_of_walk, walk_numbered
from timedoors.errors import InvalidNumber, InvalidWalk
from timedoors.hands import first_shut

HOUSES = small_houses()[::3] + some_houses(40, 80) + some_houses(401, 15, 4, 8, 4, 8)


class Counting(unittest.TestCase):

    def cases(self):
        for house in HOUSES:
            for start, goal in itertools.product(range(len(house[1])), repeat=2):
                for length in range(5):
                    yield house, start, goal, length

    def test_40_numbered_walks_are_all_playable_ones_in_order(self):
        many = []
        for house, start, goal, length in self.cases():
            walks = playable_walks(house, start, goal, length)
            self.assertTrue(same(how_many_walks(house, start, goal, length), len(walks)))
            for number, walk in enumerate(walks):
                self.assertTrue(same(walk_numbered(house, start, goal, length, number), walk))
                self.assertTrue(same(number_of_walk(house, walk), number))
            for beyond in (0, 1, 10 ** 29):
                self.assertIsNone(walk_numbered(house, start, goal, length, len(walks) + beyond))
            many.append(len(walks))
        self.assertGreater(max(many), 20)
        self.assertGreater(many.count(0), 50)

    def test_40_lengths_0_and_60(self):
        for house in (BACK, STILL, FAR, SHUT, ALONE, CROSSED):
            for start, goal in itertools.product(range(len(house[1])), repeat=2):
                self.assertEqual(how_many_walks(house, start, goal, 0), int(start == goal))
                self.assertEqual(walk_numbered(house, start, goal, 0, 0), [start] if start == goal else None)
        self.assertEqual([how_many_walks(ALONE, 0, 0, 60), walk_numbered(ALONE, 0, 0, 60, 0)], [1, [0] * 61])
        self.assertEqual([how_many_walks(SHUT, 0, 1, 60), walk_numbered(SHUT, 0, 1, 60, 0)], [0, None])
        free = ((1, []), [[]] * 3, [(place, goal, []) for place, goal in itertools.permutations(range(3), 2)])
        self.assertEqual(how_many_walks(free, 0, 2, 60), 3 ** 59)
        self.assertEqual(walk_numbered(free, 0, 2, 60, 3 ** 59 - 1), [0] + [2] * 60)
        self.assertEqual(number_of_walk(free, [0] + [2] * 60), 3 ** 59 - 1)
        once = ((1, []), [[], []], [(0, 1, [])])
        self.assertEqual([how_many_walks(once, 0, 1, 60), walk_numbered(once, 0, 1, 60, 59)], [60, [0] + [1] * 60])

    def test_40_long_walks_have_their_numbers(self):
        draw = random.Random(402)
        huge = 0
        for house in HOUSES[::4]:
            for start, goal in itertools.product(range(len(house[1])), repeat=2):
                many = how_many_walks(house, start, goal, 29)
                for number in {0, many // 2, draw.randrange(many + 1), many - 1}:
                    if 0 <= number < many:
                        walk = walk_numbered(house, start, goal, 29, number)
                        self.assertEqual([walk[0], walk[-1], len(walk)], [start, goal, 30])
                        self.assertIsNone(first_shut(house, [walk]))
                        self.assertEqual(number_of_walk(house, walk), number)
                        huge += number > 10 ** 6
                self.assertIsNone(walk_numbered(house, start, goal, 29, many))
        self.assertGreater(huge, 10)

    def test_40_walks_that_are_not_playable_have_no_number(self):
        draw = random.Random(403)
        refused = 0
        for house in HOUSES:
            for walk in some_walks(draw, house, 5, 4):
                if not plainly_playable(house, [walk]):
                    refused += 1
                    with self.assertRaises(InvalidWalk) as caught:
                        number_of_walk(house, walk)
                    self.assertIs(caught.exception.value, walk)
        self.assertGreater(refused, 50)

    def test_40_numbers_are_refused_for_themselves(self):
        for function, values, told in (
                (how_many_walks, (BACK, 0, 2, -1), 2), (how_many_walks, (BACK, 0, 1, -1), -1),
                (how_many_walks, (BACK, 0, 1, True), True), (walk_numbered, (BACK, 0, 1, None, None), None),
                (walk_numbered, (BACK, 0, 1, "2", -1), "2"), (walk_numbered, (BACK, 0, 1, 2, -1), -1),
                (walk_numbered, (BACK, -1, 5, 2, -1), -1)):
            with self.assertRaises(InvalidNumber) as caught:
                function(*values)
            self.assertIs(caught.exception.value, told)


if __name__ == "__main__":
    unittest.main()
