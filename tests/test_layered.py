"""[61] to [63]: histories by layers, against all histories, and against those of many ticks."""

import itertools
import random
import unittest

from tests.helpers import all_presses, odd_values, plain_light, presses_up_to, same, small_levels, some_presses, subsets
from tests.plain_darks import (CHEAT, ENDING, NIGHT, is_within, layered_levels, plain_layered, plain_layers,
                               plain_opened, small_dark_levels, some_dark_levels)
from timedoors.endless import for_ever
from timedoors.errors import InvalidLayers, InvalidLevel, InvalidPresses, InvalidRoom
from timedoors.layered import is_layered_history, layered_by, layered_endless, layered_history, swayed
from timedoors.layers import layers, with_darks
from timedoors.levels import plain_endless
from timedoors.light import light

SMALL = [level for level in small_dark_levels(9) if layers(level) is not None]
DRAWN = layered_levels(61, 300, 4, 7)


def unrolled(endless, ticks):
    presses, turn = endless
    return (presses + turn * ticks)[:ticks]


def rights_of(level):
    return {room for _, _, room, shift in level[1] if shift == 1}


class ByLayers(unittest.TestCase):

    def test_61_going_up_by_layers(self):
        draw = random.Random(610)
        self.assertGreater(len([level for level in DRAWN if max(layers(level)) > 1]), 30)
        for level in SMALL + DRAWN:
            presses = some_presses(draw, level[0], draw.randint(0, 6))
            told = layered_history(level, presses)
            self.assertTrue(same(told, plain_layered(level, presses, layers(level))), (level, presses))

    def test_61_the_same_for_all_layers(self):
        draw = random.Random(611)
        for level in SMALL[::3] + [level for level in DRAWN if level[0] <= 3][::4]:
            presses = some_presses(draw, level[0], draw.randint(0, 4))
            wanted = layered_history(level, presses)
            for counts in plain_layers(level, 3):
                self.assertTrue(same(layered_by(level, counts, presses), wanted), (level, counts))
                self.assertEqual(plain_layered(level, presses, counts), wanted)

    def test_61_is_layered_history_knows_it_among_all_histories(self):
        for level in SMALL:
            for presses in presses_up_to(level[0], 2):
                told = layered_history(level, presses)
                known = [history for history in all_presses(level[0], len(presses))
                         if is_layered_history(level, presses, history)]
                self.assertEqual(known, [told])
                self.assertEqual(plain_opened(level, presses, told), told)

    def test_61_without_darks_it_is_the_light(self):
        draw = random.Random(612)
        for level in small_levels()[::4]:
            presses = some_presses(draw, level[0], 4)
            self.assertTrue(same(layered_history(with_darks(level), presses), light(level, presses)))
            self.assertEqual(layered_by(with_darks(level), [3] * level[0], presses), plain_light(level, presses))

    def test_61_other_values_are_no_histories(self):
        presses = [[0], [], []]
        for value in odd_values() + [[[0], [1, 2]], [[0], [1, 2], [], []], ([0], [1, 2], []), [(0,), [1, 2], []],
                                     [[0], [2, 1], []], [[0], [1, 2], [False]], [[0], [1, 2], [3]], [[False], [1, 2], []]]:
            self.assertIs(is_layered_history(NIGHT, presses, value), False)
        self.assertIs(is_layered_history(NIGHT, presses, [[0], [1, 2], []]), True)
        self.assertIs(is_layered_history(NIGHT, [], []), True)

    def test_61_a_level_without_layers_is_refused(self):
        for level in (CHEAT, (1, [([], [0], 0, 0)]), None, (2, [([0], 1, 0)])):
            for function, more in ((layered_history, [None]), (layered_by, [None, None]), (is_layered_history, [None, None]),
                                   (layered_endless, [None])):
                with self.assertRaises(InvalidLevel) as caught:
                    function(level, *more)
                self.assertIs(caught.exception.value, level)

    def test_61_counts_that_are_no_layers_are_refused(self):
        for counts in ([0, 1, 1], [0, 0, 0], [0, 0], (0, 0, 1), [0, 0, True], None, [0, 0, 1, 1], [1, 0, 1]):
            with self.assertRaises(InvalidLayers) as caught:
                layered_by(NIGHT, counts, None)
            self.assertIs(caught.exception.value, counts)
        with self.assertRaises(InvalidPresses) as caught:
            layered_by(NIGHT, [0, 0, 1], [[3]])
        self.assertEqual(caught.exception.value, [[3]])


class Swayed(unittest.TestCase):

    def hangs(self, level, one, other):
        """By going on step by step as often as there are rooms and kinds of steps, and once more."""
        told = {(one, 0)}
        for _ in range(2 * level[0] + 1):
            told |= {(room, odd) for needs, _, room, _ in level[1] for need, odd in list(told) if need in needs}
            told |= {(room, 1 - odd) for _, darks, room, _ in level[1] for dark, odd in list(told) if dark in darks}
        return (other, 0) in told, (other, 1) in told

    def test_62_by_rows_of_doors(self):
        unlike = set()
        for level in small_dark_levels(7) + some_dark_levels(62, 200, 5, 8):
            for one, other in itertools.product(range(level[0]), repeat=2):
                told = swayed(level, one, other)
                self.assertTrue(same(told, self.hangs(level, one, other)), (level, one, other))
                unlike.add((one == other, told))
        self.assertEqual(len(unlike), 6)

    def test_62_both_evenly_and_oddly(self):
        level = (4, [([0], [], 1, 0), ([], [0], 2, 1), ([2], [1], 3, -1)])
        self.assertEqual([swayed(level, 0, room) for room in range(4)],
                         [(True, False), (True, False), (False, True), (False, True)])
        level = (2, [([0], [0], 1, 0)])
        self.assertEqual([swayed(level, 0, 1), swayed(level, 1, 0), swayed(level, 1, 1)],
                         [(True, True), (False, False), (True, False)])
        self.assertEqual([swayed((3, []), 2, 2), swayed((3, []), 2, 1)], [(True, False), (False, False)])
        # Levels without layers have rows of doors, too.
        self.assertEqual([swayed(CHEAT, 0, 0), swayed(CHEAT, 0, 1)], [(True, True), (True, True)])

    def test_62_what_more_presses_do(self):
        draw = random.Random(620)
        met = set()
        for level in SMALL + DRAWN:
            presses = some_presses(draw, level[0], draw.randint(1, 5))
            one = draw.randrange(level[0])
            more = [sorted({*lights, one}) if draw.random() < 0.5 else lights for lights in presses]
            before, behind = layered_history(level, presses), layered_history(level, more)
            for other in range(level[0]):
                evenly, oddly = swayed(level, one, other)
                lit = any(other not in lights and other in later for lights, later in zip(before, behind))
                dark = any(other in lights and other not in later for lights, later in zip(before, behind))
                self.assertTrue(evenly or not lit, (level, presses, more, other))
                self.assertTrue(oddly or not dark, (level, presses, more, other))
                met.add((evenly, oddly, lit, dark))
        self.assertIn((True, True, True, True), met)
        self.assertIn((False, True, False, True), met)
        self.assertIn((True, False, True, False), met)

    def test_62_rooms_that_are_refused(self):
        for values, told in (((NIGHT, 3, 9), 3), ((NIGHT, True, 9), True), ((NIGHT, 0, 3), 3), ((NIGHT, 0, None), None)):
            with self.assertRaises(InvalidRoom) as caught:
                swayed(*values)
            self.assertIs(caught.exception.value, told)


class Endless(unittest.TestCase):

    def rows(self, seed, levels):
        draw = random.Random(seed)
        rows = []
        for level in levels:
            endless = (some_presses(draw, level[0], draw.randint(0, 3)), some_presses(draw, level[0], draw.randint(1, 3)))
            rows.append((level, endless))
        return rows

    def test_63_each_layer_is_what_more_and_more_ticks_have(self):
        lengths = set()
        for level, endless in self.rows(63, SMALL[::2] + DRAWN[::2]):
            told = layered_endless(level, endless)
            ticks = len(told[0]) + 2 * len(told[1]) + 2
            # By the doors that it opens itself, what comes from more ticks is lit until nothing is new.
            far = ticks + 8 * len(told[1]) + 2 ** level[0] * len(endless[1])
            lit = plain_opened(level, unrolled(endless, far), unrolled(told, far))
            self.assertEqual(lit[:ticks], unrolled(told, ticks), (level, endless))
            lengths.add((len(told[0]), len(told[1])))
        self.assertGreater(len(lengths), 10)

    def test_63_the_lights_are_told_by_layers(self):
        for level, endless in self.rows(631, DRAWN[::3]):
            counts = layers(level)
            told = layered_endless(level, endless)
            for count in sorted(set(counts)):
                # The rooms of lower layers are as they are without the doors of the upper ones.
                lower = (level[0], [door for door in level[1] if counts[door[2]] <= count])
                part = layered_endless(lower, endless)
                ticks = max(len(told[0]), len(part[0])) + len(told[1]) * len(part[1])
                rooms = [room for room in range(level[0]) if counts[room] <= count]
                seen = [[[room for room in lights if room in rooms] for lights in unrolled(one, ticks)]
                        for one in (told, part)]
                self.assertEqual(seen[0], seen[1])

    def test_63_plain_and_not_too_long(self):
        for level, endless in self.rows(632, SMALL + DRAWN):
            told = layered_endless(level, endless)
            self.assertTrue(same(told, plain_endless((level[0], []), told)))
            most = len(endless[0]) + len(endless[1]) * 2 ** len(rights_of(level))
            self.assertLessEqual(len(told[0]) + len(told[1]), most)

    def test_63_without_darks_it_is_for_ever(self):
        draw = random.Random(633)
        for level in small_levels()[::5]:
            endless = (some_presses(draw, level[0], draw.randint(0, 2)), some_presses(draw, level[0], draw.randint(1, 2)))
            self.assertTrue(same(layered_endless(with_darks(level), endless), for_ever(level, endless)))

    def test_63_endless_presses_that_are_not_plain(self):
        for level, endless in self.rows(634, DRAWN[::3]):
            presses, turn = endless
            wanted = layered_endless(level, endless)
            for other in ((presses, turn * 2), (presses + turn, turn), (presses + turn[:1], turn[1:] + turn[:1])):
                self.assertTrue(same(layered_endless(level, other), wanted))

    def test_63_without_time_doors_it_begins_as_the_first_presses_alone(self):
        for level, endless in self.rows(636, layered_levels(635, 150, 4, 6, (0, 1))):
            told = layered_endless(level, endless)
            for many in (0, 1, 2, 5, 11):
                self.assertEqual(layered_history(level, unrolled(endless, many)), unrolled(told, many))

    def test_63_an_endless_history_that_no_finite_one_begins_with(self):
        told = layered_endless(ENDING, ([], [[]]))
        self.assertEqual(told, ([], [[0]]))
        for many in range(2, 30):
            finite = layered_history(ENDING, [[]] * many)
            self.assertEqual(finite, [[0, 2]] * (many - 1) + [[1]])
            self.assertFalse(is_within(finite, unrolled(told, many)))

    def test_63_it_comes_round_late(self):
        turning = (3, [([0], [], 1, 1), ([1], [], 2, 1), ([2], [], 0, 1)])
        self.assertEqual(layered_endless(turning, ([[0]], [[]])), ([], [[0], [1], [2]]))
        # An upper layer comes round by what is dark of a lower one that comes round in three ticks, and by its own two.
        level = (6, turning[1] + [([3], [], 4, 1), ([4], [], 3, 1), ([3], [0], 5, 0)])
        told = layered_endless(level, ([[0, 3]], [[]]))
        self.assertEqual(told, ([], [[0, 3], [1, 4], [2, 3, 5], [0, 4], [1, 3, 5], [2, 4]]))
        self.assertEqual(layered_history(level, [[0, 3]] + [[]] * 11), told[1] * 2)

    def test_63_subsets_of_one_room(self):
        level = (1, [([], [], 0, 1)])
        for lights in subsets([0]):
            self.assertEqual(layered_endless(level, ([lights], [[]])), ([], [[0]]) if lights else ([[]], [[0]]))

    def test_63_endless_presses_that_are_refused(self):
        for endless in (None, ([], []), [[], [[]]], ([[3]], [[]]), ([], [[]], []), ([], ([],))):
            with self.assertRaises(InvalidPresses) as caught:
                layered_endless(NIGHT, endless)
            self.assertIs(caught.exception.value, endless)


if __name__ == "__main__":
    unittest.main()
