"""[8], [9], [10]: histories that keep, the light, more light."""

import itertools
import random
import unittest

from tests.helpers import BACK, all_presses, odd_values, plain_light, plainly_keeps, presses_up_to, same, small_levels
from tests.helpers import some_levels, some_presses
from timedoors import errors
from timedoors.levels import both_pressed
from timedoors.light import common, gained, how_many_keep, keeps, light, lit_rounds


def rounds_by_the_words(level, presses):
    """[9] word by word: each round looks only at what was lit before it."""
    told = [[0 if room in lights else None for room in range(level[0])] for lights in presses]
    number, again = 0, True
    while again:
        number += 1
        new = set()
        for tick, (needs, room, shift) in itertools.product(range(len(presses)), level[1]):
            goal = tick + shift
            if 0 <= goal < len(presses) and told[goal][room] is None:
                if all(told[tick][need] is not None for need in needs):
                    new.add((goal, room))
        for goal, room in new:
            told[goal][room] = number
        again = bool(new)
    return told


class Keeping(unittest.TestCase):

    def test_8_what_keeps_on_small_levels(self):
        for level in small_levels()[::3]:
            for presses in all_presses(level[0], 2)[::3]:
                for history in all_presses(level[0], 2):
                    self.assertIs(keeps(level, presses, history), plainly_keeps(level, presses, history))

    def test_8_edges(self):
        self.assertIs(keeps(BACK, [], []), True)
        self.assertIs(keeps(BACK, [[]], []), False)
        self.assertIs(keeps(BACK, [], [[]]), False)
        self.assertIs(keeps(BACK, [[]], [[], []]), False)
        self.assertIs(keeps(BACK, [[0]], [[0]]), False)
        self.assertIs(keeps(BACK, [[0]], [[1]]), False)
        self.assertIs(keeps(BACK, [[0]], [[0, 1]]), True)
        self.assertIs(keeps(BACK, [[0]], [(0, 1)]), False)
        self.assertIs(keeps(BACK, [[0]], ([0, 1],)), False)
        self.assertIs(keeps(BACK, [[0]], [[0, True]]), False)
        self.assertIs(keeps(BACK, [[0]], [[1, 0]]), False)
        self.assertIs(keeps((1, [([], 0, -1)]), [[]], [[]]), True)
        self.assertIs(keeps((1, [([], 0, -1)]), [[], []], [[], []]), False)
        self.assertIs(keeps((1, [([], 0, 1)]), [[], []], [[], [0]]), True)
        self.assertIs(keeps((1, [([], 0, 0)]), [[], []], [[], [0]]), False)
        for value in odd_values():
            self.assertIs(keeps(BACK, [[], []], value), False)

    def test_8_common_keeps_again(self):
        for level in small_levels()[::9]:
            for presses in all_presses(level[0], 2)[::3]:
                keeping = [told for told in all_presses(level[0], 2) if plainly_keeps(level, presses, told)]
                for one, other in itertools.product(keeping, repeat=2):
                    told = common(level, presses, one, other)
                    self.assertEqual(told, [[room for room in x if room in y] for x, y in zip(one, other)])
                    self.assertTrue(keeps(level, presses, told))

    def test_8_common_refuses_what_does_not_keep(self):
        level, presses = (2, [([0], 1, 0)]), [[0]]
        good, bad, worse = [[0, 1]], [[0]], [[0, 2]]
        for one, other, told in [(bad, good, bad), (good, bad, bad), (bad, worse, bad), (worse, bad, worse)]:
            with self.assertRaises(errors.InvalidHistory) as caught:
                common(level, presses, one, other)
            self.assertIs(caught.exception.value, told)
        self.assertEqual(common(level, [], [], []), [])

    def test_8_how_many_keep_on_small_levels(self):
        for level in small_levels()[::2]:
            for presses in presses_up_to(level[0], 2) + all_presses(level[0], 3)[::11]:
                told = [value for value in all_presses(level[0], len(presses)) if plainly_keeps(level, presses, value)]
                self.assertTrue(same(how_many_keep(level, presses), len(told)))
                self.assertTrue(told)

    def test_8_how_many_keep_of_many_ticks(self):
        self.assertEqual(how_many_keep((6, []), [[]] * 30), 64 ** 30)
        self.assertEqual(how_many_keep((6, []), [[0, 1]] * 30), 16 ** 30)
        self.assertEqual(how_many_keep((2, [([0], 1, 0)]), [[]] * 30), 3 ** 30)
        self.assertEqual(how_many_keep((1, [([0], 0, 1)]), [[]] * 30), 31)
        self.assertEqual(how_many_keep((1, [([0], 0, -1)]), [[]] * 30), 31)
        self.assertEqual(how_many_keep((1, [([], 0, 0)]), [[]] * 30), 1)
        self.assertEqual(how_many_keep((6, [([], 0, 0)]), []), 1)


class TheLight(unittest.TestCase):

    def test_9_the_light_is_what_all_that_keep_have_in_common(self):
        for level in small_levels():
            for presses in presses_up_to(level[0], 2):
                told = light(level, presses)
                self.assertTrue(keeps(level, presses, told))
                for value in all_presses(level[0], len(presses)):
                    if plainly_keeps(level, presses, value):
                        self.assertTrue(all(set(x) <= set(y) for x, y in zip(told, value)))

    def test_9_the_light_of_larger_levels(self):
        draw = random.Random(9)
        for level in some_levels(9, 400, 6, 12):
            presses = some_presses(draw, level[0], draw.randint(0, 12))
            told = light(level, presses)
            self.assertTrue(same(told, plain_light(level, presses)))
            self.assertTrue(keeps(level, presses, told))
            self.assertTrue(same(light((level[0], level[1][::-1]), presses), told))

    def test_9_shifts_at_the_first_and_the_last_tick(self):
        for shift, told in [(-1, [[0], [0], []]), (0, [[0], [0], [0]]), (1, [[], [0], [0]])]:
            self.assertEqual(light((1, [([], 0, shift)]), [[]] * 3), told)
            self.assertEqual(light((1, [([], 0, shift)]), []), [])
        self.assertEqual(light((1, [([], 0, -1)]), [[]]), [[]])
        self.assertEqual(light((1, [([], 0, 1)]), [[]]), [[]])
        self.assertEqual(light((2, [([0], 1, -1)]), [[0], []]), [[0], []])
        self.assertEqual(light((2, [([0], 1, 1)]), [[], [0]]), [[], [0]])
        self.assertEqual(light((2, []), [[1], []]), [[1], []])
        self.assertEqual(light((2, [([0], 1, 0)] * 2), [[0]]), [[0, 1]])
        self.assertEqual(light((1, [([0], 0, 0)]), [[]]), [[]])

    def test_9_rounds(self):
        draw = random.Random(99)
        rows = [(level, presses) for level in small_levels()[::2] for presses in presses_up_to(level[0], 2)]
        rows += [(level, some_presses(draw, level[0], draw.randint(0, 9))) for level in some_levels(99, 300, 6, 12)]
        for level, presses in rows:
            told = lit_rounds(level, presses)
            self.assertTrue(same(told, rounds_by_the_words(level, presses)))
            lit = [[room for room, number in enumerate(line) if number is not None] for line in told]
            self.assertEqual(lit, light(level, presses))
            numbers = {number for line in told for number in line if number is not None}
            self.assertTrue(all(number <= level[0] * len(presses) for number in numbers))

    def test_9_rounds_at_the_edges(self):
        self.assertEqual(lit_rounds((2, []), []), [])
        self.assertEqual(lit_rounds((2, []), [[1]]), [[None, 0]])
        self.assertEqual(lit_rounds((2, [([], 0, 0), ([], 1, 0)]), [[1]]), [[1, 0]])
        self.assertEqual(lit_rounds((2, [([], 0, 0), ([0], 1, 0), ([0], 0, 0)]), [[]]), [[1, 2]])

    def test_9_a_near_level_is_played_whatever_its_size(self):
        rooms, doors = 6, []
        for lot in range(12):
            shift = 1 if lot % 2 == 0 else -1
            needs = [[0], [1], [2], [3], [4], [5], [0, 1], [1, 2], [2, 3], [3, 4], [4, 5], [0, 5]][lot]
            for step in range(8):
                doors.append((needs if step == 0 else [rooms - 1], rooms, shift))
                rooms += 1
            doors.append(([rooms - 1], (lot + 1) % 6, shift))
        level = (rooms, doors)
        for presses in [[[0]] + [[]] * 29, [[]] * 29 + [[1]], [[0, 1, 2, 3, 4, 5]] * 30, [[]] * 15 + [[0]] + [[]] * 14]:
            self.assertEqual(light(level, presses), plain_light(level, presses))
        chain = (40, [([room], room + 1, (-1) ** room) for room in range(39)])
        self.assertEqual(light(chain, [[0]] + [[]] * 29), plain_light(chain, [[0]] + [[]] * 29))


class More(unittest.TestCase):

    def test_10_what_is_gained(self):
        draw = random.Random(10)
        rows = []
        for level in small_levels()[::5]:
            rows += [(level, one, other) for one, other in itertools.product(all_presses(level[0], 2)[::3], repeat=2)]
        for level in some_levels(10, 300, 6, 12):
            ticks = draw.randint(0, 9)
            rows.append((level, some_presses(draw, level[0], ticks), some_presses(draw, level[0], ticks)))
        for level, presses, more in rows:
            before, behind = light(level, presses), plain_light(level, both_pressed(level, presses, more))
            told = [(tick, room) for tick, lights in enumerate(behind) for room in lights if room not in before[tick]]
            self.assertTrue(same(gained(level, presses, more), told))
            self.assertTrue(all(set(x) <= set(y) for x, y in zip(before, behind)))

    def test_10_earlier_ticks_gain_too(self):
        self.assertEqual(gained(BACK, [[], [], []], [[], [], [0]]), [(0, 2), (1, 2), (2, 0), (2, 1)])
        self.assertEqual(gained(BACK, [[], [], [0]], [[], [], [0]]), [])
        self.assertEqual(gained(BACK, [], []), [])

    def test_10_more_doors_and_ticks_make_nothing_dark(self):
        draw = random.Random(101)
        for level in some_levels(101, 200, 5, 8):
            presses = some_presses(draw, level[0], draw.randint(0, 6))
            lit = light(level, presses)
            door = ([], draw.randrange(level[0]), draw.choice((-1, 0, 1)))
            self.assertTrue(all(set(x) <= set(y) for x, y in zip(lit, light((level[0], level[1] + [door]), presses))))
            self.assertTrue(all(set(x) <= set(y) for x, y in zip(lit, light(level, presses + [[0]]))))
            self.assertTrue(all(set(x) <= set(y) for x, y in zip(lit, light(level, [[0]] + presses)[1:])))

    def test_10_as_many_ticks_are_needed(self):
        for more in ([], [[]], [[]] * 3):
            with self.assertRaises(errors.InvalidPresses) as caught:
                gained(BACK, [[], []], more)
            self.assertIs(caught.exception.value, more)


if __name__ == "__main__":
    unittest.main()
