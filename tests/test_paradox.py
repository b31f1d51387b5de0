"""[68] to [70]: paradoxes, against all lists over the letters and all numbers of ticks gone through one by one."""

import itertools
import random
import unittest

from tests.helpers import same, small_levels, some_presses, subsets
from tests.plain_darks import (CHEATED, EITHER, NIGHT, TURNED, TURNS, cheating_levels, layered_levels, linked_levels,
                               plain_founded, small_dark_levels, some_dark_levels, wavering_levels)
from timedoors.errors import InvalidLetters, InvalidLevel, InvalidPresses
from timedoors.founded import how_many_founded, is_founded
from timedoors.layers import with_darks
from timedoors.paradox import first_paradox, forced_by, founded_ticks, freed_by, is_paradox, least_paradox

LEVELS = small_dark_levels(90) + wavering_levels(68, 80, 3, 6) + linked_levels(681, 40, 3, 6) + [
    CHEATED, EITHER, TURNED, TURNS, NIGHT] + cheating_levels(685, 300, 3, 6)
# These cheat some ticks behind the first press, or the first tick.
LEVELS += [(3, [(needs, [], 1, 1), ([1], [2], 2, shift), ([1], [], 2, back)] + more)
           for needs in ([], [0]) for shift in (0, 1) for back in (-1, 1) for more in ([], [([2], [], 0, 1)])]
LEVELS += [(3, [(needs, [], 1, 1), ([1], [], 2, 1), ([2], [0], 0, 0)]) for needs in ([], [0], [1])]


def some_letters(draw, rooms, most=3):
    lots = subsets(range(rooms))
    return sorted(draw.sample(lots, draw.randint(1, min(most, len(lots)))))


def first_without(level, letters, longest):
    for many in range(longest + 1):
        for lot in itertools.product(letters, repeat=many):
            if not plain_founded(level, list(lot)):
                return list(lot)
    return None


class Paradox(unittest.TestCase):

    def test_68_no_founded_history(self):
        draw = random.Random(680)
        told = {True: 0, False: 0}
        for level in LEVELS:
            presses = some_presses(draw, level[0], draw.randint(0, 4 if level[0] < 3 else 2))
            wanted = not plain_founded(level, presses)
            self.assertIs(is_paradox(level, presses), wanted)
            told[wanted] += 1
        self.assertTrue(told[True] > 40 and told[False] > 100, told)

    def test_68_the_first_of_all_lists(self):
        draw = random.Random(682)
        lengths = {}
        for level in LEVELS:
            letters = some_letters(draw, level[0])
            longest = {1: 5, 2: 3, 3: 2}[level[0]] if len(letters) < 3 else 2
            told = first_paradox(level, letters)
            found = first_without(level, letters, longest)
            if told is None or len(told) > longest:
                self.assertIsNone(found, (level, letters))
            else:
                self.assertTrue(same(told, found), (level, letters))
            self.assertTrue(told is None or is_paradox(level, told))
            lengths[told and len(told)] = lengths.get(told and len(told), 0) + 1
        self.assertTrue(lengths[None] > 40 and lengths[1] > 20 and lengths[2] > 20 and lengths[3] > 0, lengths)

    def test_68_no_shorter_or_earlier_list_by_counting(self):
        draw = random.Random(683)
        for level in LEVELS[::2]:
            letters = some_letters(draw, level[0], 2)
            told = first_paradox(level, letters)
            for many in range(7 if told is None else len(told) + 1):
                lots = [list(lot) for lot in itertools.product(letters, repeat=many)]
                none = [lot for lot in lots if how_many_founded(level, lot) == 0]
                self.assertEqual(none[:1], [told] if told is not None and len(told) == many else [])

    def test_68_long_first_paradoxes(self):
        # Light goes on by one room for each tick, and cheats behind the last one.
        level = (4, [([0], [], 1, 1), ([1], [], 2, 1), ([2], [3], 3, 0)])
        self.assertEqual(first_paradox(level, [[], [0]]), [[0], [], []])
        self.assertEqual(first_paradox(level, [[0], [3]]), [[0], [0], [0]])
        self.assertEqual(first_paradox(level, [[0], [0, 1], [0, 2]]), [[0, 2]])
        self.assertIsNone(first_paradox(level, [[], [0, 3]][:1]))
        self.assertIsNone(first_paradox(level, [[0, 3], [3]]))

    def test_68_no_paradox_of_any_length(self):
        for level in layered_levels(684, 60, 3, 6):
            self.assertIsNone(first_paradox(level, subsets(range(level[0]))[:4]))
        for level in small_levels()[::30]:
            self.assertIsNone(first_paradox(with_darks(level), subsets(range(level[0]))))
        self.assertIsNone(first_paradox(EITHER, [[], [0], [0, 1], [1]]))
        self.assertEqual([is_paradox(CHEATED, []), first_paradox(CHEATED, [[0]])], [False, None])

    def test_68_letters_that_are_refused(self):
        for letters in (None, [], [[0], []], [[0], [0]], [[2]], ([],)):
            with self.assertRaises(InvalidLetters) as caught:
                first_paradox(EITHER, letters)
            self.assertIs(caught.exception.value, letters)


class Ticks(unittest.TestCase):

    def test_69_each_number_of_ticks(self):
        draw = random.Random(69)
        kinds = {}
        for level in LEVELS:
            turn = some_presses(draw, level[0], draw.randint(1, 3))
            ahead, again = founded_ticks(level, turn)
            ticks = len(ahead) + 2 * len(again) + 4
            told = (ahead + again * ticks)[:ticks]
            self.assertTrue(same(told, [how_many_founded(level, (turn * ticks)[:many]) > 0 for many in range(ticks)]))
            most = {1: 6, 2: 4, 3: 2}[level[0]]
            for many in range(min(most, ticks)):
                self.assertEqual(told[many], bool(plain_founded(level, (turn * most)[:many])))
            kinds[(len(ahead), len(again))] = kinds.get((len(ahead), len(again)), 0) + 1
        self.assertTrue(len(kinds) > 6 and kinds[(0, 1)] > 40, kinds)

    def test_69_both_lists_are_as_short_as_can_be(self):
        draw = random.Random(691)
        for level in LEVELS:
            ahead, again = founded_ticks(level, some_presses(draw, level[0], draw.randint(1, 3)))
            self.assertTrue(again and all(value in (True, False) for value in ahead + again))
            self.assertTrue(not ahead or ahead[-1] != again[-1])
            for size in range(1, len(again)):
                self.assertFalse(len(again) % size == 0 and again == again[:size] * (len(again) // size))

    def test_69_again_and_again(self):
        # A tick that cheats where the one ahead is dark, and a light that comes each second tick.
        level = (2, [([1], [0], 0, 0), ([1], [], 1, 1)])
        self.assertEqual(founded_ticks(level, [[1], [0]]), ([True], [False]))
        self.assertEqual(founded_ticks(level, [[0, 1], [0]]), ([], [True]))
        self.assertEqual(founded_ticks(level, [[], [0], [0, 1]]), ([True] * 4, [False]))
        # The last tick alone cheats, unless room 0 is pressed at it: nothing is dark there that time doors light.
        ending = (2, [([], [], 1, -1), ([], [0, 1], 0, 0)])
        self.assertEqual(founded_ticks(ending, [[]]), ([True], [False]))
        self.assertEqual(founded_ticks(ending, [[], [0]]), ([], [True, False]))
        self.assertEqual(founded_ticks(ending, [[0], [], [0]]), ([], [True, True, False]))

    def test_69_a_beginning_founded_where_the_whole_is_not_and_the_other_way_round(self):
        ending = (2, [([], [], 1, -1), ([], [0, 1], 0, 0)])
        presses = [[], [0]]
        self.assertEqual([is_paradox(ending, presses[:1]), is_paradox(ending, presses)], [True, False])
        self.assertIs(is_founded(ending, presses, [[1], [0]]), True)
        self.assertEqual([is_paradox(TURNED, [[]]), is_paradox(TURNED, [[], []])], [False, True])

    def test_69_the_least_number_with_none(self):
        draw = random.Random(692)
        numbers = set()
        for level in LEVELS:
            turn = some_presses(draw, level[0], draw.randint(1, 3))
            ahead, again = founded_ticks(level, turn)
            wanted = next((many for many, is_any in enumerate(ahead + again) if not is_any), None)
            told = least_paradox(level, turn)
            self.assertTrue(same(told, wanted))
            if told is not None:
                self.assertTrue(is_paradox(level, (turn * told)[:told]))
                self.assertFalse(any(is_paradox(level, (turn * told)[:many]) for many in range(told)))
            numbers.add(told)
        self.assertTrue(numbers >= {None, 1, 2, 3}, numbers)

    def test_69_turns_that_are_refused(self):
        for function in (founded_ticks, least_paradox):
            for turn in ([], None, [[2]], ([],), [None]):
                with self.assertRaises(InvalidPresses) as caught:
                    function(EITHER, turn)
                self.assertIs(caught.exception.value, turn)
            with self.assertRaises(InvalidLevel):
                function((1, [([0], 0, 0)]), [])


class OneMore(unittest.TestCase):

    def test_70_just_where_told(self):
        draw = random.Random(70)
        met = {}
        for level in LEVELS + some_dark_levels(701, 60, 3, 6):
            presses = some_presses(draw, level[0], draw.randint(0, 4))
            was = is_paradox(level, presses)
            forced, freed = forced_by(level, presses), freed_by(level, presses)
            every = [(tick, room) for tick in range(len(presses)) for room in range(level[0]) if room not in presses[tick]]
            wanted = []
            for tick, room in every:
                more = presses[:tick] + [sorted(presses[tick] + [room])] + presses[tick + 1:]
                is_none = is_paradox(level, more)
                wanted.extend([(tick, room)] if is_none else [])
                if len(presses) * level[0] <= 6:
                    self.assertEqual(is_none, not plain_founded(level, more))
                met[(was, is_none)] = met.get((was, is_none), 0) + 1
            self.assertTrue(same(forced, wanted), (level, presses))
            self.assertTrue(same(freed, [look for look in every if look not in wanted]))
        self.assertTrue(all(met[(was, is_none)] > 30 for was in (True, False) for is_none in (True, False)), met)

    def test_70_without_dark_needs_never(self):
        draw = random.Random(702)
        for level in small_levels()[::25]:
            presses = some_presses(draw, level[0], 3)
            self.assertEqual(forced_by(with_darks(level), presses), [])
            self.assertEqual(len(freed_by(with_darks(level), presses)), 3 * level[0] - sum(map(len, presses)))

    def test_70_nothing_is_left_to_press(self):
        self.assertEqual([forced_by(CHEATED, []), freed_by(CHEATED, []), forced_by(CHEATED, [[0]]), freed_by(CHEATED, [[0]])],
                         [[], [], [], []])
        self.assertEqual([forced_by(CHEATED, [[], []]), freed_by(CHEATED, [[], []])], [[(0, 0), (1, 0)], []])


if __name__ == "__main__":
    unittest.main()
