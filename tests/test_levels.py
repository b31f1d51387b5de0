"""[4], [6]: levels, doors, presses, runs, endless presses and letters as data."""

import itertools
import unittest

from tests import wrong
from tests.helpers import HALL, all_presses, odd_values, presses_up_to, same, subsets
from timedoors import errors
from timedoors.levels import are_endless, are_letters, are_presses, are_runs, both_pressed, how_many_ticks, is_door
from timedoors.levels import is_level, left_rooms, plain_endless, pressed_at, right_rooms, spread_out


class Judged(unittest.TestCase):

    def test_6_levels(self):
        for level in [(1, []), HALL, (2, [([0], 1, -1)] * 3), (6, [([0, 1, 2, 3, 4, 5], 5, 1)]), (10 ** 29, [])]:
            self.assertIs(is_level(level), True)
        for value in wrong.LEVELS + odd_values():
            with self.subTest(value=value):
                self.assertIs(is_level(value), False)

    def test_6_doors(self):
        for door in [([], 0, 0), ([0, 1], 1, -1), ([1], 1, 1), ([0, 2], 2, 0)]:
            self.assertIs(is_door(3, door), True)
        self.assertIs(is_door(2, ([0, 2], 1, 0)), False)
        self.assertIs(is_door(2, ([0], 2, 0)), False)
        self.assertIs(is_door(1, ([0], 0, 0)), True)
        for _, doors in [level for level in wrong.LEVELS if isinstance(level, tuple) and len(level) == 2]:
            if isinstance(doors, list) and len(doors) == 1:
                with self.subTest(door=doors[0]):
                    self.assertIs(is_door(3, doors[0]), False)
        for value in odd_values():
            self.assertIs(is_door(3, value), False)

    def test_6_presses(self):
        for value in all_presses(3, 1) + [[], [[0], [], [1, 2]], [[]] * 40]:
            self.assertIs(are_presses(HALL, value), True)
        for value in wrong.PRESSES:
            with self.subTest(value=value):
                self.assertIs(are_presses(HALL, value), False)

    def test_6_runs(self):
        for value in [[], [([], 0)], [([0, 2], 10 ** 30 - 1), ([0, 2], 1)], [([1], 1)] * 12]:
            self.assertIs(are_runs(HALL, value), True)
        for value in wrong.RUNS:
            with self.subTest(value=value):
                self.assertIs(are_runs(HALL, value), False)

    def test_6_endless(self):
        for value in [([], [[]]), ([[0]], [[0], [0]]), ([[]] * 12, [[0, 1, 2]] * 12)]:
            self.assertIs(are_endless(HALL, value), True)
        for value in wrong.ENDLESS:
            with self.subTest(value=value):
                self.assertIs(are_endless(HALL, value), False)

    def test_6_letters(self):
        for value in [[[]], [[0, 1, 2]], subsets(range(3)), [[], [0, 1], [2]], [[0], [0, 1], [1]]]:
            self.assertIs(are_letters(HALL, value), True)
        for value in wrong.LETTERS:
            with self.subTest(value=value):
                self.assertIs(are_letters(HALL, value), False)


class Made(unittest.TestCase):

    def test_6_right_and_left_rooms(self):
        level = (4, [([], 3, 1), ([0], 1, 1), ([1], 3, 1), ([], 2, -1), ([], 0, -1), ([1], 2, -1), ([], 1, 0)])
        self.assertEqual(right_rooms(level), [1, 3])
        self.assertEqual(left_rooms(level), [0, 2])
        self.assertEqual([right_rooms((2, [])), left_rooms((2, [([], 0, 1), ([], 1, 0)]))], [[], []])

    def test_6_both_pressed(self):
        self.assertEqual(both_pressed(HALL, [[0], []], [[1], [], [0]]), [[0, 1], [], [0]])
        self.assertEqual(both_pressed(HALL, [[1, 2], [0], [2]], [[0, 2]]), [[0, 1, 2], [0], [2]])
        self.assertEqual([both_pressed(HALL, [], []), both_pressed(HALL, [], [[]])], [[], [[]]])
        for one, other in itertools.product(presses_up_to(1, 3), repeat=2):
            ticks = max(len(one), len(other))
            told = [list(one[tick]) if tick < len(one) else [] for tick in range(ticks)]
            for tick in range(len(other)):
                told[tick] = sorted({*told[tick], *other[tick]})
            self.assertEqual(both_pressed((1, []), one, other), told)

    def test_6_spread_out(self):
        self.assertEqual(spread_out(HALL, [([0], 2), ([], 1)]), [[0], [0], []])
        self.assertEqual(spread_out(HALL, [([0], 0), ([1, 2], 1), ([0], 0)]), [[1, 2]])
        self.assertEqual(spread_out(HALL, []), [])
        self.assertEqual(spread_out(HALL, [([0], 100), ([1], 0), ([], 200)]), [[0]] * 100 + [[]] * 200)
        lights = [0]
        told = spread_out(HALL, [(lights, 300)])
        self.assertEqual(len({id(item) for item in told + [lights]}), 301)

    def test_6_spread_out_of_more_than_300_ticks(self):
        for runs, many in [([([], 301)], 301), ([([0], 300), ([], 1)], 301), ([([], 10 ** 29), ([1], 5)], 10 ** 29 + 5)]:
            with self.assertRaises(errors.TooMany) as caught:
                spread_out(HALL, runs)
            self.assertTrue(same(caught.exception.value, many))
        with self.assertRaises(errors.InvalidRuns):
            spread_out(HALL, [([], 301), ([3], 1)])

    def test_6_how_many_ticks(self):
        self.assertEqual(how_many_ticks(HALL, [([0], 10 ** 20), ([], 1)]), 10 ** 20 + 1)
        self.assertEqual(how_many_ticks(HALL, [([], 10 ** 30 - 1)] * 12), 12 * (10 ** 30 - 1))
        self.assertEqual([how_many_ticks(HALL, []), how_many_ticks(HALL, [([0], 0)])], [0, 0])

    def test_6_plain_endless(self):
        level = (2, [])
        rows = [
            (([[0], [1], [0]], [[1], [0], [1], [0]]), ([], [[0], [1]])),
            (([], [[]]), ([], [[]])),
            (([[]], [[]]), ([], [[]])),
            (([[0], []], [[], []]), ([[0]], [[]])),
            (([[1], [0], [0]], [[1], [0], [0]]), ([], [[1], [0], [0]])),
            (([[1], [0]], [[1], [0], [0]]), ([[1]], [[0], [1], [0]])),
            (([[0]], [[1], [0], [1]]), ([[0]], [[1], [0], [1]])),
            (([], [[0], [1], [0], [0], [1], [0]]), ([], [[0], [1], [0]])),
            (([], [[0], [1], [0], [1], [0]]), ([], [[0], [1], [0], [1], [0]])),
        ]
        for endless, told in rows:
            with self.subTest(endless=endless):
                self.assertTrue(same(plain_endless(level, endless), told))

    def test_6_plain_endless_is_the_only_plain_one(self):
        level = (1, [])
        plain = {}
        for presses, turn in itertools.product(presses_up_to(1, 3), presses_up_to(1, 4)):
            if not turn:
                continue
            told = plain_endless(level, (presses, turn))
            ticks = [pressed_at(level, (presses, turn), tick) for tick in range(40)]
            self.assertEqual([pressed_at(level, told, tick) for tick in range(40)], ticks)
            self.assertEqual(plain.setdefault(str(ticks), told), told)
            self.assertEqual(plain_endless(level, told), told)
            self.assertFalse(told[0] and told[0][-1] == told[1][-1])
            size = len(told[1])
            for part in range(1, size):
                self.assertFalse(size % part == 0 and told[1] == told[1][:part] * (size // part))

    def test_6_pressed_at(self):
        endless = ([[0], [2]], [[1], [], [0, 1]])
        self.assertEqual([pressed_at(HALL, endless, tick) for tick in range(9)],
                         [[0], [2], [1], [], [0, 1], [1], [], [0, 1], [1]])
        self.assertEqual(pressed_at(HALL, endless, 10 ** 30 - 1), endless[1][(10 ** 30 - 3) % 3])
        self.assertEqual(pressed_at(HALL, ([[0]], [[1], []]), 10 ** 20), [])
        self.assertEqual(pressed_at(HALL, ([], [[1], []]), 0), [1])


if __name__ == "__main__":
    unittest.main()
