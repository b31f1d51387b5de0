"""[41]: a walk beside elder hands, against all walks gone through one by one."""

import itertools
import random
import unittest

from tests.helpers import same
from tests.plain_houses import (ALONE, BACK, CROSSED, FAR, SHUT, STILL, plainly_playable, small_houses, some_houses,
                                some_walks, walks_from)
from timedoors.beside import how_many_beside, shortest_beside
from timedoors.counting import how_many_walks
from timedoors.errors import InvalidNumber, InvalidWalks
from timedoors.hands import debts, first_shut
from timedoors.puzzles import shortest_walk

LONGEST = 4


def drawn_rows():
    draw = random.Random(41)
    rows = []
    for house in small_houses()[::4] + some_houses(41, 150) + some_houses(411, 50, 4, 8):
        walks = some_walks(draw, house, draw.choice((1, 1, 2, 3)), draw.choice((1, 2, 4)))
        rows.append((house, walks))
    return rows


def owing_rows():
    """Elder hands alone, whose later steps are opened by ticks that come later still."""
    draw = random.Random(413)
    rows = []
    for house in some_houses(413, 1500, 3, 6):
        walks = some_walks(draw, house, draw.choice((1, 2)), 5)
        if first_shut(house, walks) is None and any(tick > 0 for _, tick, _ in debts(house, walks)):
            rows.append((house, walks))
    return rows


ROWS = drawn_rows() + owing_rows()


def walks_beside(house, walks, start, goal, length):
    return [walk for walk in walks_from(house, start, length)
            if walk[-1] == goal and plainly_playable(house, walks + [walk])]


class Beside(unittest.TestCase):

    def test_41_the_shortest_and_how_many_of_all_walks(self):
        freed, longer, none = 0, 0, 0
        for house, walks in ROWS:
            are_playable = plainly_playable(house, walks)
            for start, goal in itertools.product(range(len(house[1])), repeat=2):
                told = shortest_beside(house, walks, start, goal)
                found = None
                for length in range(LONGEST + 1):
                    beside = walks_beside(house, walks, start, goal, length)
                    self.assertTrue(same(how_many_beside(house, walks, start, goal, length), len(beside)))
                    found = beside[0] if found is None and beside else found
                if told is None or len(told) > LONGEST + 1:
                    self.assertIsNone(found)
                else:
                    self.assertTrue(same(told, found))
                if told is not None:
                    self.assertIsNone(first_shut(house, walks + [told]))
                    self.assertEqual([told[0], told[-1]], [start, goal])
                freed += told is not None and not are_playable
                longer += told is not None and len(told) > max(len(walk) for walk in walks)
                none += told is None
        self.assertTrue(freed > 20 and longer > 20 and none > 20, (freed, longer, none))

    def test_41_without_elder_hands_it_is_the_shortest_walk(self):
        for house in [BACK, STILL, FAR, SHUT, ALONE, CROSSED, *some_houses(412, 80)]:
            for start, goal in itertools.product(range(len(house[1])), repeat=2):
                self.assertTrue(same(shortest_beside(house, [], start, goal), shortest_walk(house, start, goal)))
                for length in (0, 1, 3, 7):
                    self.assertEqual(how_many_beside(house, [], start, goal, length),
                                     how_many_walks(house, start, goal, length))

    def test_41_elder_hands_that_cannot_be_played_alone(self):
        self.assertIsNotNone(first_shut(CROSSED, [[2, 3]]))
        self.assertEqual([shortest_beside(CROSSED, [[2, 3]], 0, 1), shortest_beside(CROSSED, [[2, 3]], 0, 0)],
                         [[0, 1], None])
        self.assertEqual(shortest_beside(CROSSED, [[2, 2, 2, 3]], 0, 1), [0, 0, 0, 1])
        self.assertEqual([how_many_beside(CROSSED, [[2, 2, 3]], 0, 1, many) for many in (0, 1, 2, 3)], [0, 0, 1, 1])
        # The younger hand frees the elder one only long after that one is gone.
        far = ((4, [([0], 1, -1), ([1], 1, -1)]), [[], [], [0]],
               [(0, 1, [1]), (1, 2, [])])
        self.assertIsNotNone(first_shut(far, [[0, 1]]))
        self.assertEqual([shortest_beside(far, [[0, 1]], 1, 2), shortest_beside(far, [[0, 1]], 1, 1)], [[1, 2], None])
        self.assertEqual(how_many_beside(far, [[0, 1]], 1, 2, 60), 60)

    def test_41_elder_hands_of_one_place_and_of_unlike_lengths(self):
        self.assertEqual([shortest_beside(ALONE, [[0]], 0, 0), how_many_beside(ALONE, [[0]], 0, 0, 60)], [[0], 1])
        self.assertEqual(shortest_beside(BACK, [[1, 1, 1]], 0, 1), [0, 1])
        self.assertEqual([shortest_beside(BACK, [[0, 0, 0, 1]], 0, 0), how_many_beside(BACK, [[0, 0, 0, 1]], 0, 0, 1)],
                         [[0], 1])
        self.assertEqual(shortest_beside(STILL, [[1], [0, 0]], 0, 1), [0, 0, 1])
        self.assertEqual([shortest_beside(SHUT, [[0], [0, 0]], 0, 1), shortest_beside(SHUT, [[1, 1]], 1, 1)], [None, [1]])
        self.assertEqual(shortest_beside(SHUT, [[1], [0, 1]], 1, 1), None)

    def test_41_wrong_values_are_refused_for_themselves(self):
        for function, values, error, told in (
                (shortest_beside, (BACK, [[0, 2]], 5, 5), InvalidWalks, [[0, 2]]),
                (shortest_beside, (BACK, [], 5, 6), InvalidNumber, 5),
                (how_many_beside, (BACK, [], 0, 6, -1), InvalidNumber, 6),
                (how_many_beside, (BACK, [], 0, 1, -1), InvalidNumber, -1)):
            with self.assertRaises(error) as caught:
                function(*values)
            self.assertEqual(caught.exception.value, told)


if __name__ == "__main__":
    unittest.main()
