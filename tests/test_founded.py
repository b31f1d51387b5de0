"""[64] to [67]: founded histories, against all histories of small dark levels, looked at one by one."""

import itertools
import random
import unittest

from tests.helpers import all_presses, odd_values, plain_light, presses_up_to, same, small_levels, some_presses, subsets
from tests.plain_darks import (CHEATED, EITHER, NIGHT, STOPPING, TURNED, TURNS, is_within, layered_levels,
                               plain_founded, plain_opened, small_dark_levels, some_dark_levels, wavering_levels)
from timedoors.errors import InvalidHistory, InvalidLevel, InvalidNumber, InvalidPresses, TooMany
from timedoors.founded import (agreeing, all_founded, first_founded, founded_counts, founded_light, how_many_founded,
                               is_founded)
from timedoors.layered import layered_history
from timedoors.layers import with_darks
from timedoors.light import light


def drawn_rows():
    """Small dark levels, each with all presses of few ticks, or with some of a few more, and all founded histories."""
    rows = []
    for level in small_dark_levels(40):
        for presses in presses_up_to(level[0], 3 if level[0] == 1 else 1):
            rows.append((level, presses))
    draw = random.Random(64)
    levels = wavering_levels(641, 200, 2, 5) + wavering_levels(642, 160, 3, 6) + some_dark_levels(644, 60, 3, 6)
    for level in levels:
        most = {1: 6, 2: 4, 3: 2}[level[0]]
        rows.append((level, some_presses(draw, level[0], draw.randint(1, most))))
    return [(level, presses, plain_founded(level, presses)) for level, presses in rows]


ROWS = drawn_rows()


def counted_onward(level, presses):
    """How many there are without time doors, tick by tick: what comes in is all that counts further on."""
    rooms, doors = level
    ways = {(): 1}
    for lights in presses:
        more = {}
        for coming, many in ways.items():
            for guess in subsets(range(rooms)):
                now = (rooms, [door for door in doors if door[3] == 0])
                if plain_opened(now, [sorted({*lights, *coming})], [guess]) == [guess]:
                    sent = {room for needs, darks, room, shift in doors
                            if shift == 1 and set(needs) <= set(guess) and not set(darks) & set(guess)}
                    more[tuple(sorted(sent))] = more.get(tuple(sorted(sent)), 0) + many
        ways = more
    return sum(ways.values())


class Founded(unittest.TestCase):

    def test_64_what_comes_from_the_presses_by_the_doors_it_opens(self):
        numbers = {}
        for level, presses, wanted in ROWS:
            known = [history for history in all_presses(level[0], len(presses)) if is_founded(level, presses, history)]
            self.assertEqual(known, wanted, (level, presses))
            numbers[len(known)] = numbers.get(len(known), 0) + 1
        self.assertTrue(numbers[0] > 50 and numbers[1] > 100 and numbers[2] > 50 and len(numbers) > 6, numbers)

    def test_64_founded_light(self):
        draw = random.Random(643)
        for level, presses, wanted in ROWS:
            for _ in range(3):
                history = some_presses(draw, level[0], len(presses))
                told = founded_light(level, presses, history)
                self.assertTrue(same(told, plain_opened(level, presses, history)))
                self.assertEqual(told == history, history in wanted)

    def test_64_nothing_comes_from_itself(self):
        ring = (2, [([0], [], 1, 0), ([1], [], 0, 0), ([0], [], 0, -1)])
        self.assertEqual(all_founded(ring, [[], []]), [[[], []]])
        self.assertEqual(all_founded(ring, [[], [1]]), [[[0, 1], [0, 1]]])
        self.assertIs(is_founded(ring, [[], []], [[0, 1], [0, 1]]), False)

    def test_64_other_values_are_not_founded(self):
        for value in odd_values() + [[[0], [0]], [], ([0],), [(0,)], [[False]], [[0, 0]], [[2]], [[-1]], [[1, 0]]]:
            self.assertIs(is_founded(EITHER, [[]], value), False)
        self.assertEqual([is_founded(EITHER, [[]], [[0]]), is_founded(EITHER, [], []), is_founded(EITHER, [], [[]])],
                         [True, True, False])

    def test_64_histories_that_are_refused(self):
        for history in (None, [], [[]], [[], [], []], [[], [2]], [[], (0,)], ([], []), [[], [1, 0]], [[], [True]]):
            with self.assertRaises(InvalidHistory) as caught:
                founded_light(EITHER, [[], []], history)
            self.assertIs(caught.exception.value, history)
        for values, error, told in (((None, None, None), InvalidLevel, None), ((EITHER, [[2]], None), InvalidPresses, [[2]])):
            for function in (founded_light, is_founded):
                with self.assertRaises(error) as caught:
                    function(*values)
                self.assertEqual(caught.exception.value, told)


class Told(unittest.TestCase):

    def test_65_the_first_and_all_in_order(self):
        for level, presses, wanted in ROWS:
            self.assertTrue(same(first_founded(level, presses), wanted[0] if wanted else None), (level, presses))
            self.assertTrue(same(all_founded(level, presses), wanted))

    def test_65_presses_of_no_tick(self):
        for level in (CHEATED, EITHER, TURNED, NIGHT, (1, [])):
            self.assertEqual([first_founded(level, []), all_founded(level, []), how_many_founded(level, []),
                              agreeing(level, [])], [[], [[]], 1, ([], [])])

    def test_65_more_than_100(self):
        self.assertEqual(len(all_founded(EITHER, [[]] * 6)), 64)
        for ticks, told in ((7, 128), (30, 2 ** 30), (60, 2 ** 60)):
            with self.assertRaises(TooMany) as caught:
                all_founded(EITHER, [[]] * ticks)
            self.assertTrue(same(caught.exception.value, told))
            self.assertEqual(first_founded(EITHER, [[]] * ticks), [[0]] * ticks)
        # Of three rooms just one is lit, and of two more: 6 ways at a tick where nothing is pressed.
        many = (5, [([], [1, 2], 0, 0), ([], [0, 2], 1, 0), ([], [0, 1], 2, 0)] + [([], [3], 4, 0), ([], [4], 3, 0)])
        self.assertEqual([how_many_founded(many, [[]] * ticks) for ticks in range(4)], [1, 6, 36, 216])
        self.assertEqual(len(all_founded(many, [[], [0, 3], [], []][:3])), 36)
        with self.assertRaises(TooMany) as caught:
            all_founded(many, [[]] * 3)
        self.assertEqual(caught.exception.value, 216)

    def test_65_just_100_are_told(self):
        # Ten ways at a tick: one of five rooms, and one of two.
        five = [([], [other for other in range(5) if other != room], room, 0) for room in range(5)]
        level = (7, five + [([], [5], 6, 0), ([], [6], 5, 0)])
        self.assertEqual([how_many_founded(level, [[]]), how_many_founded(level, [[], []])], [10, 100])
        told = all_founded(level, [[], []])
        self.assertEqual([len(told), told], [100, sorted(told)])

    def test_65_just_101_are_too_many(self):
        self.assertEqual(len(all_founded(STOPPING, [[]] * 99)), 100)
        with self.assertRaises(TooMany) as caught:
            all_founded(STOPPING, [[]] * 100)
        self.assertEqual(caught.exception.value, 101)
        self.assertEqual(all_founded(STOPPING, [[]] * 2), [[[0], [0]], [[0], [1]], [[1], [1]]])

    def test_66_how_many(self):
        for level, presses, wanted in ROWS:
            self.assertTrue(same(how_many_founded(level, presses), len(wanted)))

    def test_66_many_ticks_without_time_doors_and_told_from_behind(self):
        draw = random.Random(662)
        numbers = set()
        for level in wavering_levels(663, 60, 4, 6):
            onward = (level[0], [(needs, darks, room, abs(shift)) for needs, darks, room, shift in level[1]])
            back = (level[0], [(needs, darks, room, -shift) for needs, darks, room, shift in onward[1]])
            presses = some_presses(draw, level[0], draw.randint(8, 24))
            wanted = counted_onward(onward, presses)
            self.assertEqual(how_many_founded(onward, presses), wanted)
            self.assertEqual(how_many_founded(back, presses[::-1]), wanted)
            self.assertEqual(founded_counts(onward, presses, 30)[len(presses)], wanted)
            numbers.add(wanted)
        self.assertTrue(len(numbers) > 8 and max(numbers) > 1000, numbers)

    def test_66_numbers_with_very_many_figures(self):
        self.assertEqual(how_many_founded(EITHER, [[]] * 300), 2 ** 300)
        self.assertEqual(how_many_founded(EITHER, [[], [0]] * 100), 2 ** 100)
        # Each room is lit or dark by the tick behind: told back from the last tick, where nothing comes in.
        self.assertEqual(founded_counts(EITHER, [[]], 60), [2 ** many for many in range(61)])

    def test_66_counts_for_each_number_of_ticks(self):
        draw = random.Random(66)
        for level in small_dark_levels(60) + wavering_levels(661, 120, 3, 5):
            turn = some_presses(draw, level[0], draw.randint(1, 3))
            told = founded_counts(level, turn, 9)
            self.assertTrue(same(told, [how_many_founded(level, (turn * 9)[:many]) for many in range(10)]))
            self.assertEqual(told[:3], [len(plain_founded(level, (turn * 2)[:many])) for many in range(3)])

    def test_66_wrong_values_in_order(self):
        for turn in ([], None, [[2]], ([],)):
            with self.assertRaises(InvalidPresses) as caught:
                founded_counts(EITHER, turn, 61)
            self.assertIs(caught.exception.value, turn)
        for many in (61, -1, True, False, None, "1", [1], 10 ** 29):
            with self.assertRaises(InvalidNumber) as caught:
                founded_counts(EITHER, [[]], many)
            self.assertIs(caught.exception.value, many)
        self.assertEqual([founded_counts(EITHER, [[]], 0), len(founded_counts(CHEATED, [[0]], 60))], [[1], 61])
        with self.assertRaises(InvalidLevel):
            founded_counts((2, [([0], 1, 0)]), [], 61)


class Together(unittest.TestCase):

    def test_67_none_has_all_that_another_one_has_and_more(self):
        for level, presses, _ in ROWS:
            for one, other in itertools.permutations(all_founded(level, presses), 2):
                self.assertFalse(is_within(one, other))

    def test_67_without_dark_needs_it_is_just_the_light(self):
        draw = random.Random(67)
        for level in small_levels()[::6]:
            presses = some_presses(draw, level[0], draw.randint(0, 5))
            self.assertEqual(all_founded(with_darks(level), presses), [plain_light(level, presses)])
            self.assertTrue(same(first_founded(with_darks(level), presses), light(level, presses)))
            lit = light(level, presses)
            self.assertTrue(same(agreeing(with_darks(level), presses), (lit, lit)))

    def test_67_where_there_are_layers_it_is_just_the_history_by_layers(self):
        draw = random.Random(671)
        for level in layered_levels(672, 120, 4, 7):
            presses = some_presses(draw, level[0], draw.randint(0, 6))
            self.assertTrue(same(all_founded(level, presses), [layered_history(level, presses)]))

    def test_67_what_all_have_and_what_some_have(self):
        for level, presses, wanted in ROWS:
            told = None
            if wanted:
                sure = [sorted(set(range(level[0])).intersection(*(history[tick] for history in wanted)))
                        for tick in range(len(presses))]
                told = sure, [sorted(set().union(*(history[tick] for history in wanted))) for tick in range(len(presses))]
            self.assertTrue(same(agreeing(level, presses), told), (level, presses))

    def test_67_many_ticks(self):
        self.assertEqual(agreeing(EITHER, [[], [1]] * 15), ([[], [1]] * 15, [[0, 1], [1]] * 15))
        self.assertEqual([agreeing(TURNS, [[]] * 3), agreeing(TURNS, [[1], [], [1]])],
                         [([[]] * 3, [[0, 1, 2]] * 3), ([[1], [0], [1]], [[0, 1], [0, 1, 2], [0, 1]])])


if __name__ == "__main__":
    unittest.main()
