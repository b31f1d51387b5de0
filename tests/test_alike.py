"""[48] to [51]: levels that are alike, against all lists over the letters up to some length."""

import itertools
import random
import unittest

from tests.helpers import BACK, HALL, LOOP, plain_light, same, small_levels, some_levels, subsets
from timedoors.alike import (are_alike, idle_doors, is_enough, is_parting, least_lots, lighting, parting,
                             without_doors)
from timedoors.errors import InvalidLetters, InvalidLevel, InvalidLights, InvalidNumber, InvalidRoom, Unlike

LONGEST = 4
ONE_BACK, ONE_AHEAD = (2, [([0], 1, -1)]), (2, [([0], 1, 1)])


def lists_over(letters, longest=LONGEST):
    return [list(lot) for many in range(longest + 1) for lot in itertools.product(letters, repeat=many)]


def seen(level, presses, watched):
    return [[room for room in lights if room in watched] for lights in plain_light(level, presses)]


def first_parting(one, other, letters, watched, longest=LONGEST):
    for presses in lists_over(letters, longest):
        if seen(one, presses, watched) != seen(other, presses, watched):
            return presses
    return None


def some_letters(draw, rooms):
    return sorted(draw.sample(subsets(range(rooms)), draw.randint(1, 2)))


def changed_level(draw, level):
    """A level like another one but for a door: taken out, given twice, or put in."""
    rooms, doors = level
    doors = list(doors)
    if doors and draw.random() < 0.4:
        doors.pop(draw.randrange(len(doors)))
    elif doors and draw.random() < 0.4:
        doors.insert(0, draw.choice(doors))
    else:
        doors.append((sorted(draw.sample(range(rooms), draw.randint(0, 1))), draw.randrange(rooms), draw.choice((-1, 0, 1))))
    return rooms, doors


def drawn_pairs(seed, levels):
    draw = random.Random(seed)
    rows = []
    for level in levels:
        other = changed_level(draw, changed_level(draw, level) if draw.random() < 0.5 else level)
        watched = sorted(draw.sample(range(level[0]), draw.randint(1, level[0])))
        rows.append((level, other, some_letters(draw, level[0]), watched))
    return rows


PAIRS = drawn_pairs(48, small_levels()[::3] + some_levels(481, 250, 3, 6))


class Alike(unittest.TestCase):

    def test_48_alike_exactly_if_no_list_parts_them(self):
        lengths = {}
        for one, other, letters, watched in PAIRS:
            told = parting(one, other, letters, watched)
            found = first_parting(one, other, letters, watched)
            if told is None or len(told) > LONGEST:
                self.assertIsNone(found, (one, other, letters, watched))
            else:
                self.assertTrue(same(told, found), (one, other, letters, watched))
            if told is not None:
                self.assertNotEqual(seen(one, told, watched), seen(other, told, watched))
            self.assertIs(are_alike(one, other, letters, watched), told is None)
            length = None if told is None else len(told)
            lengths[length] = lengths.get(length, 0) + 1
        self.assertTrue(lengths[None] > 50 and lengths[1] > 20 and lengths[2] > 20 and lengths[3] > 0, lengths)

    def test_48_longer_lists_do_not_part_them_either(self):
        for one, other, letters, watched in PAIRS[::3]:
            if are_alike(one, other, letters, watched):
                self.assertIsNone(first_parting(one, other, letters, watched, 6))

    def test_48_a_long_list_that_parts(self):
        # Light goes on by one room for each tick, and only the last room is watched.
        doors = [([room], room + 1, 1) for room in range(4)] + [([4], 5, -1)]
        one, other = (6, doors), (6, doors[:4])
        self.assertEqual(parting(one, other, [[], [0]], [5]), [[0], [], [], [], []])
        self.assertEqual(parting(one, other, [[0]], [5]), [[0]] * 5)
        self.assertIsNone(parting(one, other, [[], [0]], [0, 1, 2, 3, 4]))
        self.assertEqual(parting(one, other, [[0], [0, 1, 2, 3]], [5]), [[0, 1, 2, 3], [0]])

    def test_48_other_numbers_of_doors_and_equal_levels(self):
        for level in (BACK, HALL, LOOP, (1, [])):
            rooms, doors = level
            everything = list(range(rooms))
            letters = subsets(range(rooms))[:3]
            self.assertIs(are_alike(level, level, letters, everything), True)
            self.assertIs(are_alike(level, (rooms, doors * 3), letters, everything), True)
            self.assertIs(are_alike((rooms, doors[::-1] * 2), level, letters, everything), True)
        self.assertEqual(parting((1, []), (1, [([], 0, 0)]), [[], [0]], [0]), [[]])
        self.assertIs(are_alike((1, []), (1, [([], 0, 0)]), [[0]], [0]), True)

    def test_48_no_watched_rooms_and_no_letters_that_light(self):
        for one, other, letters, _ in PAIRS[::7]:
            self.assertIs(are_alike(one, other, letters, []), True)
            self.assertIsNone(parting(one, other, letters, []))
        self.assertIs(are_alike(ONE_BACK, ONE_AHEAD, [[]], [0, 1]), True)
        self.assertIs(are_alike((2, []), (2, [([], 1, -1)]), [[]], [0]), True)
        self.assertEqual(parting((2, []), (2, [([], 1, -1)]), [[]], [1]), [[], []])

    def test_48_both_ways_round(self):
        for one, other, letters, watched in PAIRS:
            self.assertTrue(same(parting(one, other, letters, watched), parting(other, one, letters, watched)))

    def test_48_wrong_values_in_order(self):
        for values, error, told in (
                (((0, []), (0, []), [], [9]), InvalidLevel, (0, [])), ((HALL, None, [], [9]), InvalidLevel, None),
                ((HALL, (2, []), [], [9]), Unlike, (2, [])), ((HALL, (4, []), [], [9]), Unlike, (4, [])),
                ((HALL, (3, []), [], [9]), InvalidLetters, []), ((HALL, (3, []), [[]], [9]), InvalidLights, [9]),
                ((HALL, (10 ** 29, []), [[]], [0]), Unlike, (10 ** 29, []))):
            for function in (are_alike, parting, is_parting):
                with self.assertRaises(error) as caught:
                    function(*values, *([None] if function is is_parting else []))
                self.assertEqual(caught.exception.value, told)
                self.assertIs(type(caught.exception), error)

    def test_48_unlike_holds_the_other_level_itself(self):
        other = (2, [([0], 1, 0)])
        with self.assertRaises(Unlike) as caught:
            parting(HALL, other, [[]], [])
        self.assertIs(caught.exception.value, other)


class Parting(unittest.TestCase):

    def test_49_each_list_is_judged_by_both_lights(self):
        for one, other, letters, watched in PAIRS[::4]:
            for presses in lists_over(letters, 3):
                wanted = seen(one, presses, watched) != seen(other, presses, watched)
                self.assertIs(is_parting(one, other, letters, watched, presses), wanted)

    def test_49_no_list_over_the_letters_parts(self):
        for value in (None, (), {}, "", 0, [[1]], [[0], [1]], [[], [0], [0, 1]], ([], [0]), [(), [0]], [[], [False]],
                      [[], 0], [None]):
            self.assertIs(is_parting(ONE_BACK, ONE_AHEAD, [[], [0]], [1], value), False)
        self.assertIs(is_parting(ONE_BACK, ONE_AHEAD, [[], [0]], [1], [[]] * 9 + [[0]]), True)
        self.assertIs(is_parting(ONE_BACK, ONE_AHEAD, [[], [0]], [1], []), False)

    def test_49_the_first_list_that_lights(self):
        lengths = {}
        for level, _, letters, _ in PAIRS:
            for room in range(level[0]):
                told = lighting(level, letters, room)
                found = next((presses for presses in lists_over(letters)
                              if any(room in lights for lights in plain_light(level, presses))), None)
                if told is None or len(told) > LONGEST:
                    self.assertIsNone(found)
                else:
                    self.assertTrue(same(told, found))
                if told is not None:
                    self.assertTrue(any(room in lights for lights in plain_light(level, told)))
                length = None if told is None else len(told)
                lengths[length] = lengths.get(length, 0) + 1
        self.assertTrue(lengths[None] > 50 and lengths[1] > 50 and lengths[2] > 10, lengths)

    def test_49_a_room_that_no_list_lights(self):
        self.assertEqual([lighting((1, []), [[]], 0), lighting(ONE_AHEAD, [[], [1]], 0)], [None, None])
        self.assertEqual([lighting((1, [([], 0, 0)]), [[]], 0), lighting((1, [([], 0, 1)]), [[]], 0)], [[[]], [[], []]])
        self.assertEqual(lighting((6, [([room], room + 1, 1) for room in range(5)]), [[], [0]], 5),
                         [[0], [], [], [], [], []])
        with self.assertRaises(InvalidRoom) as caught:
            lighting(HALL, [[]], 3)
        self.assertEqual(caught.exception.value, 3)


class Doors(unittest.TestCase):

    def test_50_without_doors(self):
        for level in (BACK, HALL, LOOP, (1, [])):
            for numbers in subsets(range(len(level[1]))):
                wanted = (level[0], [door for at, door in enumerate(level[1]) if at not in numbers])
                self.assertTrue(same(without_doors(level, numbers), wanted))
        for numbers in ([3], [0, 0], [1, 0], (0,), [True], [-1], None, 0):
            with self.assertRaises(InvalidNumber) as caught:
                without_doors(HALL, numbers)
            self.assertIs(caught.exception.value, numbers)

    def test_50_the_told_level_is_a_new_one(self):
        told = without_doors(HALL, [])
        told[1][0][0].append(2)
        told[1].append(([], 0, 0))
        self.assertEqual(HALL, (3, [([0, 1], 2, 0), ([2], 0, 1), ([], 1, -1)]))

    def test_50_idle_doors_one_alone_taken_out(self):
        unlike = set()
        for level, _, letters, watched in PAIRS:
            idle = idle_doors(level, letters, watched)
            numbers = range(len(level[1]))
            wanted = [number for number in numbers
                      if first_parting(level, without_doors(level, [number]), letters, watched) is None]
            self.assertTrue(same(idle, wanted), (level, letters, watched))
            unlike.add((len(idle), len(level[1])))
        self.assertGreater(len(unlike), 12)

    def test_50_idle_alone_and_not_together(self):
        twice = (2, [([0], 1, 0), ([0], 1, 0)])
        self.assertEqual(idle_doors(twice, [[], [0]], [1]), [0, 1])
        self.assertIs(are_alike(twice, without_doors(twice, [0, 1]), [[], [0]], [1]), False)
        self.assertEqual([idle_doors((1, []), [[0]], [0]), idle_doors(twice, [[]], [0, 1])], [[], [0, 1]])
        self.assertEqual([idle_doors(HALL, [[]], []), idle_doors(HALL, [[0]], [0, 1, 2])], [[0, 1, 2], [1]])
        self.assertEqual(idle_doors(HALL, [[], [0], [2]], [0, 1, 2]), [])


class Lots(unittest.TestCase):

    def with_only(self, level, lot):
        return level[0], [level[1][number] for number in lot]

    def rows(self):
        return [row for row in PAIRS if len(row[0][1]) <= 4][::2] + [row for row in PAIRS if len(row[0][1]) >= 5][::4]

    def test_51_least_lots_against_all_lots(self):
        sizes = set()
        for level, _, letters, watched in self.rows():
            lots = subsets(range(len(level[1])))
            enough = [lot for lot in lots
                      if first_parting(level, self.with_only(level, lot), letters, watched) is None]
            wanted = [lot for lot in enough if not any([other for other in lot if other != number] in enough
                                                       for number in lot)]
            told = least_lots(level, letters, watched)
            self.assertTrue(same(told, wanted), (level, letters, watched))
            for lot in lots:
                self.assertIs(is_enough(level, letters, watched, lot), lot in enough)
            sizes.update((len(told), len(lot)) for lot in told)
        self.assertTrue(any(many > 1 for many, _ in sizes) and any(size > 2 for _, size in sizes), sizes)

    def test_51_what_has_an_enough_lot_within_is_enough(self):
        for level, _, letters, watched in self.rows()[::3]:
            least = least_lots(level, letters, watched)
            for lot in subsets(range(len(level[1]))):
                self.assertIs(is_enough(level, letters, watched, lot), any(set(less) <= set(lot) for less in least))

    def test_51_a_door_stands_in_all_exactly_if_it_is_not_idle(self):
        for level, _, letters, watched in self.rows():
            least = least_lots(level, letters, watched)
            idle = idle_doors(level, letters, watched)
            numbers = range(len(level[1]))
            self.assertEqual(idle, [number for number in numbers if not all(number in lot for lot in least)])
            for number in numbers:
                ceases = any(is_enough(level, letters, watched, lot)
                             and not is_enough(level, letters, watched, [other for other in lot if other != number])
                             for lot in subsets(numbers) if number in lot)
                self.assertEqual(not any(number in lot for lot in least), not ceases)

    def test_51_no_doors_and_no_watched_rooms(self):
        self.assertEqual([least_lots((1, []), [[0]], [0]), is_enough((1, []), [[0]], [0], [])], [[[]], True])
        self.assertEqual([least_lots(BACK, [[0]], []), is_enough(BACK, [[0]], [], [])], [[[]], True])
        self.assertEqual(least_lots(HALL, [[0]], [0, 1, 2]), [[0, 2]])
        self.assertEqual(least_lots(HALL, [[], [0], [2]], [0, 1, 2]), [[0, 1, 2]])

    def test_51_other_values_are_no_lots(self):
        for value in (None, (), (0,), {}, "", 0, [3], [1, 0], [0, 0], [True], [-1], [[0]], [0, 1, 2, 3]):
            self.assertIs(is_enough(BACK, [[0]], [2], value), False)
        self.assertIs(is_enough(BACK, [[0]], [2], [0, 1, 2]), True)


if __name__ == "__main__":
    unittest.main()
