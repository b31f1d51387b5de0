"""[54] to [57]: long doors, against all histories of small long levels, and against the light of near levels."""

import itertools
import random
import unittest

from tests.helpers import (BACK, HALL, all_presses, plain_light, plainly_keeps, presses_up_to, same, small_levels,
                           some_levels, some_presses, spread, subsets)
from timedoors.errors import InvalidLevel, InvalidNumber, InvalidPresses, InvalidRoom, InvalidRuns
from timedoors.levels import is_level, left_rooms, right_rooms
from timedoors.light import light
from timedoors.longdoors import (is_long_level, long_far_light, long_light, mirrored, near_level, reach_of, slowed)

FAR = (2, [([0], 1, 3), ([1], 0, -2)])


def small_long_levels():
    """All long levels of one room with at most two doors of shifts up to 3, and of two rooms with one of them."""
    doors = {rooms: [(needs, room, shift) for needs in subsets(range(rooms)) for room in range(rooms)
                     for shift in range(-3, 4)] for rooms in (1, 2)}
    lots = [(1, list(lot)) for many in range(3) for lot in itertools.combinations(doors[1], many)]
    return lots + [(2, [door]) for door in doors[2]]


def plain_near(level):
    """The near level, written down by the words of [55] one after the other."""
    rooms, doors = level
    made = [door for door in doors if abs(door[2]) <= 1]
    heads = []
    for needs, _, shift in doors:
        if abs(shift) > 1 and (needs, shift > 0) not in heads:
            heads.append((needs, shift > 0))
    for needs, is_ahead in heads:
        lot = [door for door in doors if abs(door[2]) > 1 and (door[0], door[2] > 0) == (needs, is_ahead)]
        greatest = max(abs(shift) for _, _, shift in lot)
        step = 1 if is_ahead else -1
        numbers = list(range(rooms, rooms + greatest - 1))
        for at, number in enumerate(numbers):
            made.append((needs if at == 0 else [numbers[at - 1]], number, step))
        for _, room, shift in lot:
            made.append(([numbers[abs(shift) - 2]], room, step))
        rooms += greatest - 1
    return rooms, made


def first_rooms(level, history):
    return [[room for room in lights if room < level[0]] for lights in history]


LEVELS = some_levels(54, 300, 5, 8, range(-9, 10)) + some_levels(541, 200, 4, 6, range(-3, 4))


class Light(unittest.TestCase):

    def test_54_what_is_a_long_level(self):
        for level in [(1, []), HALL, BACK, FAR, (7, [([6], 0, 9), ([], 6, -9)] * 20), (10 ** 29, [([], 10 ** 28, 9)])]:
            self.assertIs(is_long_level(level), True)
        for value in [None, 1, "", [], (), (0, []), (1, ()), [1, []], (True, []), (1, [([], 0, 10)]),
                      (1, [([], 0, -10)]), (1, [([], 0, True)]), (1, [([], 0, False)]), (1, [([], 0, None)]),
                      (1, [([], 0, "1")]), (1, [([], 1, 9)]), (1, [([1], 0, 9)]), (2, [([1, 0], 0, 9)]),
                      (1, [((), 0, 9)]), (1, [[[], 0, 9]]), (1, [([], 0, 9, 0)]), (1, [([], [], 0, 9)])]:
            self.assertIs(is_long_level(value), False)

    def test_54_the_least_of_all_histories_that_keep(self):
        for level in small_long_levels():
            for presses in presses_up_to(level[0], 3 if level[0] == 1 else 2):
                kept = [history for history in all_presses(level[0], len(presses))
                        if plainly_keeps(level, presses, history)]
                least = [sorted(set(range(level[0])).intersection(*(history[tick] for history in kept)))
                         for tick in range(len(presses))]
                told = long_light(level, presses)
                self.assertTrue(same(told, least), (level, presses))
                self.assertIn(told, kept)

    def test_54_against_going_over_all_doors(self):
        draw = random.Random(542)
        for level in LEVELS:
            presses = some_presses(draw, level[0], draw.randint(0, 24))
            self.assertTrue(same(long_light(level, presses), plain_light(level, presses)))

    def test_54_for_a_level_it_is_its_light(self):
        for level in small_levels()[::7]:
            for presses in presses_up_to(level[0], 2):
                self.assertTrue(same(long_light(level, presses), light(level, presses)))

    def test_54_shifts_of_9_both_ways_and_no_tick(self):
        ahead, back = (2, [([0], 1, 9)]), (2, [([0], 1, -9)])
        self.assertEqual([long_light(ahead, []), long_light(back, []), long_light(ahead, [[0]])], [[], [], [[0]]])
        for many in (9, 10, 11):
            self.assertEqual(long_light(ahead, [[0]] + [[]] * (many - 1)), ([[0]] + [[]] * 8 + [[1], []])[:many])
            told = long_light(back, [[]] * (many - 1) + [[0]])
            self.assertEqual(told, ([[], [1]] + [[]] * 8 + [[0]])[-many:])

    def test_54_wrong_values_in_order(self):
        with self.assertRaises(InvalidLevel) as caught:
            long_light((1, [([], 0, 10)]), None)
        self.assertEqual(caught.exception.value, (1, [([], 0, 10)]))
        with self.assertRaises(InvalidPresses) as caught:
            long_light(FAR, [[2]])
        self.assertEqual(caught.exception.value, [[2]])


class Near(unittest.TestCase):

    def test_55_the_rooms_and_doors_stand_as_told(self):
        for level in LEVELS + small_long_levels():
            self.assertTrue(same(near_level(level), plain_near(level)), level)

    def test_55_the_long_light_is_that_of_the_near_level(self):
        draw = random.Random(55)
        for level in LEVELS + small_long_levels():
            near = near_level(level)
            presses = some_presses(draw, level[0], draw.randint(0, 12))
            wanted = long_light(level, presses)
            self.assertTrue(is_level(near))
            self.assertTrue(same(first_rooms(level, light(near, presses)), wanted), level)
            self.assertTrue(same(first_rooms(level, long_light(near, presses)), wanted))

    def test_55_lots_with_equal_shifts_and_needs_in_another_order_of_doors(self):
        doors = [([0, 1], 2, 3), ([], 0, 2), ([0, 1], 0, 3), ([0, 1], 2, -2), ([], 1, 2)]
        self.assertEqual(near_level((3, doors)), (7, [
            ([0, 1], 3, 1), ([3], 4, 1), ([4], 2, 1), ([4], 0, 1), ([], 5, 1), ([5], 0, 1), ([5], 1, 1),
            ([0, 1], 6, -1), ([6], 2, -1)]))
        self.assertEqual(near_level((3, doors[::-1])), (7, [
            ([], 3, 1), ([3], 1, 1), ([3], 0, 1), ([0, 1], 4, -1), ([4], 2, -1), ([0, 1], 5, 1), ([5], 6, 1),
            ([6], 0, 1), ([6], 2, 1)]))

    def test_55_greatest_shifts_and_equal_doors(self):
        rooms, doors = near_level((1, [([0], 0, 9), ([0], 0, 9), ([0], 0, -9)]))
        self.assertEqual([rooms, len(doors), doors[-1]], [17, 8 + 2 + 8 + 1, ([16], 0, -1)])
        self.assertEqual(doors[7:10], [([7], 8, 1), ([8], 0, 1), ([8], 0, 1)])

    def test_55_shifts_0_1_and_minus_1_alone(self):
        for level in small_levels()[::9] + [HALL, BACK, (1, [])]:
            told = near_level(level)
            self.assertTrue(same(told, level))
            self.assertIsNot(told[1], level[1])
        told = near_level(FAR)
        told[1][0][0].append(9)
        self.assertEqual([near_level(FAR)[1][0], FAR], [([0], 2, 1), (2, [([0], 1, 3), ([1], 0, -2)])])


class Slowed(unittest.TestCase):

    def test_56_slowed_plays_never_meet(self):
        draw = random.Random(56)
        for level in LEVELS:
            greatest = max((abs(shift) for _, _, shift in level[1]), default=0)
            for many in range(1, 10):
                if greatest * many > 9:
                    with self.assertRaises(InvalidNumber) as caught:
                        slowed(level, many)
                    self.assertEqual(caught.exception.value, many)
                    continue
                told = slowed(level, many)
                self.assertTrue(same(told, (level[0], [(needs, room, by * many) for needs, room, by in level[1]])))
                presses = some_presses(draw, level[0], draw.randint(0, 20))
                lit = long_light(told, presses)
                for start in range(many):
                    self.assertTrue(same(lit[start::many], long_light(level, presses[start::many])))

    def test_56_mirrored_plays_are_told_from_behind(self):
        draw = random.Random(561)
        for level in LEVELS:
            told = mirrored(level)
            self.assertTrue(same(told, (level[0], [(needs, room, -by) for needs, room, by in level[1]])))
            self.assertTrue(same(mirrored(told), level))
            presses = some_presses(draw, level[0], draw.randint(0, 16))
            self.assertTrue(same(long_light(told, presses[::-1]), long_light(level, presses)[::-1]))

    def test_56_both_are_levels_again_if_all_shifts_allow_it(self):
        for level in small_levels()[::11]:
            self.assertTrue(is_level(mirrored(level)) and is_level(slowed(level, 1)))
            self.assertEqual(is_level(slowed(level, 2)), all(shift == 0 for _, _, shift in level[1]))

    def test_56_numbers_that_are_refused(self):
        for many in (0, 10, -1, True, False, None, "2", [2], (), 10 ** 29):
            with self.assertRaises(InvalidNumber) as caught:
                slowed((1, []), many)
            self.assertIs(caught.exception.value, many)
        for level, many in ((FAR, 4), ((1, [([], 0, 5)]), 2), ((1, [([], 0, -5)]), 2), ((1, [([], 0, -9)]), 9)):
            with self.assertRaises(InvalidNumber) as caught:
                slowed(level, many)
            self.assertEqual(caught.exception.value, many)
        self.assertEqual(slowed((1, [([], 0, 1), ([], 0, -1), ([0], 0, 0)]), 9),
                         (1, [([], 0, 9), ([], 0, -9), ([0], 0, 0)]))
        with self.assertRaises(InvalidLevel):
            slowed((1, [([], 0, 10)]), 0)

    def test_56_the_told_levels_are_new_ones(self):
        for function in (mirrored, lambda level: slowed(level, 1), near_level):
            level = (2, [([0], 1, 1), ([1], 0, -1)])
            told = function(level)
            told[1][0][0].append(1)
            told[1].append(([], 0, 0))
            self.assertEqual(level, (2, [([0], 1, 1), ([1], 0, -1)]))


class FarAway(unittest.TestCase):

    def rows(self, seed):
        draw = random.Random(seed)
        rows = []
        for level in some_levels(seed, 250, 3, 4, (-4, -3, -2, -1, 0, 1, 2, 3, 4)):
            near = near_level(level)
            if len(right_rooms(near)) + len(left_rooms(near)) <= 6:
                runs = [(sorted(draw.sample(range(level[0]), draw.choice((0, 0, 1)))), draw.randint(0, 5))
                        for _ in range(draw.randint(0, 4))]
                rows.append((level, runs))
        return rows

    def test_57_far_long_lights_are_those_of_all_ticks(self):
        rows = self.rows(57)
        self.assertGreater(len(rows), 80)
        for level, runs in rows:
            lit = long_light(level, spread(runs))
            for tick, lights in enumerate(lit):
                self.assertTrue(same(long_far_light(level, runs, tick), lights), (level, runs, tick))
            for room in range(level[0]):
                ticks = [tick for tick, lights in enumerate(lit) if room in lights]
                self.assertTrue(same(reach_of(level, runs, room), (ticks[0], ticks[-1]) if ticks else None))

    def test_57_ticks_with_20_figures_and_more(self):
        runs = [([], 10 ** 20), ([1], 1), ([], 10 ** 29)]
        start = 10 ** 20
        for tick, lights in ((0, []), (start - 3, []), (start - 2, [0]), (start - 1, [0]), (start, [0, 1])):
            self.assertEqual(long_far_light((2, [([1], 0, -2), ([0], 0, 1)]), runs, tick), lights)
        level = (2, [([1], 0, 4), ([0], 0, 4)])
        for tick in (start, start + 4, start + 4 * 10 ** 28):
            self.assertEqual([0 in long_far_light(level, runs, tick + by) for by in range(4)], [tick > start] + [False] * 3)
        self.assertEqual([reach_of(level, runs, room) for room in (0, 1)],
                         [(start + 4, start + 10 ** 29), (start, start)])

    def test_57_runs_of_no_tick_and_counts_of_0(self):
        for runs in ([], [([0], 0)], [([], 0), ([1], 0)]):
            self.assertEqual([reach_of(FAR, runs, 0), reach_of(FAR, runs, 1)], [None, None])
            with self.assertRaises(InvalidNumber) as caught:
                long_far_light(FAR, runs, 0)
            self.assertEqual(caught.exception.value, 0)
        self.assertEqual(long_far_light(FAR, [([], 0), ([0], 1), ([1], 0)], 0), [0])

    def test_57_wrong_values_in_order(self):
        runs = [([0], 5)]
        for function, last, error, wrong in ((long_far_light, 0, InvalidNumber, 5), (reach_of, 0, InvalidRoom, 2)):
            for values, told_error, told in (
                    (((1, [([], 0, 10)]), None, None), InvalidLevel, (1, [([], 0, 10)])),
                    ((FAR, [([2], 1)], None), InvalidRuns, [([2], 1)]), ((FAR, [([0], True)], last), InvalidRuns, None),
                    ((FAR, runs, wrong), error, wrong), ((FAR, runs, True), error, True), ((FAR, runs, -1), error, -1)):
                with self.assertRaises(told_error) as caught:
                    function(*values)
                if told is not None:
                    self.assertTrue(same(caught.exception.value, told))


if __name__ == "__main__":
    unittest.main()
