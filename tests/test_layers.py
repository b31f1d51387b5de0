"""[58] to [60]: dark levels, layers and dark rings, against all layers and all rings of small levels."""

import itertools
import unittest

from tests.helpers import BACK, HALL, odd_values, same, small_levels
from tests.plain_darks import (CHEAT, CHEATED, EITHER, NIGHT, TURNED, all_dark_doors, layered_levels, linked_levels,
                               plain_layers, plain_rings, plainly_layers, small_dark_levels, some_dark_levels)
from timedoors.errors import InvalidLevel
from timedoors.layers import are_layers, dark_ring, is_dark_level, is_dark_ring, layers, with_darks

LEVELS = small_dark_levels(5) + some_dark_levels(58, 200, 4, 6) + layered_levels(581, 60, 6, 12)
LEVELS += linked_levels(582, 200, 4, 7) + linked_levels(583, 60, 6, 10)


class Darks(unittest.TestCase):

    def test_58_what_is_a_dark_level(self):
        for level in LEVELS + [NIGHT, (1, []), (7, [([6], [6], 0, -1)] * 20), (10 ** 29, [([10 ** 28], [0], 1, 1)])]:
            self.assertIs(is_dark_level(level), True)
        door = ([0], [1], 2, 0)
        self.assertIs(is_dark_level((3, [door, door])), True)
        for at, wrongs in ((0, [None, (), (0,), [1, 0], [0, 0], [3], [-1], [True], {}, 0]),
                           (1, [None, (), (0,), [1, 0], [0, 0], [3], [-1], [True], {}, 0]),
                           (2, [None, 3, -1, True, "0", [0]]), (3, [None, 2, -2, True, False, "0", 10 ** 29])):
            for wrong in wrongs:
                parts = list(door)
                parts[at] = wrong
                self.assertIs(is_dark_level((3, [door, tuple(parts)])), False)
        for value in odd_values() + [HALL, BACK, (3, (door,)), (0, []), (True, []), [3, [door]], (3, [list(door)]),
                                     (3, [door + (0,)]), (3, [door[:3]]), (3, [door], [])]:
            self.assertIs(is_dark_level(value), False)

    def test_58_needs_and_darks_that_share_rooms(self):
        level = (2, [([0, 1], [0], 1, 0)])
        self.assertEqual([is_dark_level(level), layers(level), dark_ring(level)], [True, [0, 1], None])

    def test_58_with_darks(self):
        for level in small_levels()[::5]:
            told = with_darks(level)
            self.assertTrue(same(told, (level[0], [(needs, [], room, shift) for needs, room, shift in level[1]])))
            self.assertIs(is_dark_level(told), True)
            self.assertEqual(layers(told), [0] * level[0])
            self.assertIsNone(dark_ring(told))
        for value in (NIGHT, None, (0, [])):
            with self.assertRaises(InvalidLevel) as caught:
                with_darks(value)
            self.assertIs(caught.exception.value, value)

    def test_58_the_told_level_is_a_new_one(self):
        level = (2, [([0], 1, 1)])
        told = with_darks(level)
        told[1][0][0].append(1)
        told[1][0][1].append(1)
        told[1].append(([], [], 0, 0))
        self.assertEqual([level, with_darks(level)], [(2, [([0], 1, 1)]), (2, [([0], [], 1, 1)])])


class Layers(unittest.TestCase):

    def test_59_the_least_of_all_layers(self):
        told = {}
        for level in [level for level in LEVELS if level[0] <= 4]:
            every = plain_layers(level, level[0])
            least = [min(counts) for counts in zip(*every)] if every else None
            self.assertTrue(same(layers(level), least), level)
            told[str(least)] = told.get(str(least), 0) + 1
            if every:
                self.assertIn(least, every)
        self.assertTrue(len(told) > 12 and told["None"] > 50, told)

    def test_59_layers_of_up_to_six_rooms(self):
        chain = (6, [([], [room], room + 1, 0) for room in range(5)])
        self.assertEqual([layers(chain), layers((6, chain[1][::-1]))], [[0, 1, 2, 3, 4, 5]] * 2)
        self.assertEqual(layers((6, chain[1] + [([5], [], 5, -1), ([0], [], 2, 1)])), [0, 1, 2, 3, 4, 5])
        self.assertIsNone(layers((6, chain[1] + [([5], [], 0, -1)])))
        self.assertEqual(layers((6, [([], [1], 0, 0), ([0], [], 2, 1), ([2], [], 0, 1)])), [1, 0, 1, 0, 0, 0])

    def test_59_any_value_is_judged(self):
        for level in LEVELS[::7]:
            if level[0] <= 3:
                for counts in itertools.product(range(4), repeat=level[0]):
                    self.assertIs(are_layers(level, list(counts)), plainly_layers(level, counts))
        for value in odd_values() + [[0, 0], [0, 0, 0, 1], (0, 0, 1), [0, 0, True], [0, False, 1], [0, 0, -1],
                                     [0, 0, None], [-1, 0, 1], [[0], 0, 1], ["0", 0, 1], {0: 0, 1: 0, 2: 1}]:
            self.assertIs(are_layers(NIGHT, value), False)
        for value in ([0, 0, 1], [10 ** 29, 10 ** 29, 10 ** 29 + 1], [0, 5, 6]):
            self.assertIs(are_layers(NIGHT, value), True)

    def test_59_layers_that_are_not_the_least_ones(self):
        for level in LEVELS[::3]:
            least = layers(level)
            if least is not None:
                for counts in ([2 * count for count in least], [count + 7 for count in least]):
                    self.assertIs(are_layers(level, counts), True)


class Rings(unittest.TestCase):

    def test_60_the_first_of_the_shortest(self):
        sizes = {}
        for level in LEVELS:
            rings = plain_rings(level)
            told = dark_ring(level)
            self.assertTrue(same(told, rings[0] if rings else None), level)
            sizes[told and len(told)] = sizes.get(told and len(told), 0) + 1
        self.assertTrue(sizes[None] > 50 and sizes[1] > 50 and min(sizes[2], sizes[3]) > 10 and sizes[4] > 0, sizes)

    def test_60_layers_exactly_if_there_is_no_dark_ring(self):
        for level in small_dark_levels() + LEVELS:
            self.assertEqual(layers(level) is None, dark_ring(level) is not None)

    def test_60_long_rings(self):
        for many in range(1, 7):
            for by_dark in range(many):
                doors = []
                for room in range(many):
                    later = [room]
                    needs, darks = ([], later) if room == by_dark else (later, [])
                    doors.append((needs, darks, (room + 1) % many, 1))
                self.assertEqual(dark_ring((6, doors)), list(range(many)))
                self.assertIsNone(dark_ring((6, doors[:by_dark] + doors[by_dark + 1:])))
        # Of two ways round from room 0 only the longer one leads through a dark need.
        level = (4, [([0], [], 1, 0), ([1], [], 0, 0), ([1], [], 2, 0), ([], [2], 3, 0), ([3], [], 0, 0)])
        self.assertEqual(dark_ring(level), [0, 1, 2, 3])
        # The shortest way round from room 0 meets room 1 twice, so it is no ring, but a part of it is.
        level = (3, [([0], [], 1, 0), ([1], [], 0, 0), ([], [1], 2, 0), ([2], [], 1, 0)])
        self.assertEqual(dark_ring(level), [1, 2])

    def test_60_a_dark_ring_of_one_room(self):
        self.assertEqual([dark_ring(CHEATED), is_dark_ring(CHEATED, [0])], [[0], True])
        self.assertEqual([layers(CHEATED), dark_ring((1, [([0], [], 0, 0)]))], [None, None])
        own = (2, [([1], [1], 1, 1)])
        self.assertEqual([dark_ring(own), is_dark_ring(own, [1]), is_dark_ring(own, [0])], [[1], True, False])

    def test_60_any_value_is_judged(self):
        for level in LEVELS[::6]:
            if level[0] <= 4:
                rings = plain_rings(level)
                for many in range(level[0] + 1):
                    for ring in itertools.permutations(range(level[0]), many):
                        self.assertIs(is_dark_ring(level, list(ring)), list(ring) in rings)
        self.assertIs(is_dark_ring(CHEAT, [0, 1]), True)
        for value in odd_values() + [(0, 1), [1, 0], [0], [1], [0, 1, 0], [0, 1, 0, 1], [0, True], [False, 1], [0, 2],
                                     [-1, 0], [], {0: 1}, [0, None], [[0], [1]]]:
            self.assertIs(is_dark_ring(CHEAT, value), False)

    def test_60_rings_by_needs_alone_are_none(self):
        for level, told in ((EITHER, [0, 1]), (TURNED, [0, 1])):
            self.assertEqual(dark_ring(level), told)
        bright = (2, [(sorted([*needs, *darks]), [], room, shift) for needs, darks, room, shift in TURNED[1]])
        self.assertEqual([dark_ring(bright), is_dark_ring(bright, [0, 1]), layers(bright)], [None, False, [0, 0]])

    def test_60_one_of_both_papers_always_stands(self):
        for level in LEVELS:
            told, ring = layers(level), dark_ring(level)
            self.assertEqual(told is None, ring is not None)
            self.assertTrue(are_layers(level, told) if ring is None else is_dark_ring(level, ring))

    def test_60_wrong_levels_are_refused(self):
        for function in (layers, dark_ring, lambda level: are_layers(level, []), lambda level: is_dark_ring(level, [])):
            for value in (HALL, None, (0, []), (1, [([], [], 0, 2)])):
                with self.assertRaises(InvalidLevel) as caught:
                    function(value)
                self.assertIs(caught.exception.value, value)

    def test_60_all_doors_of_one_room(self):
        for door in all_dark_doors(1):
            level = (1, [door])
            self.assertEqual(layers(level), None if door[1] else [0])
            self.assertEqual(dark_ring(level), [0] if door[1] else None)


if __name__ == "__main__":
    unittest.main()
