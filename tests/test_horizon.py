"""[52], [53]: time doors that are needed, and how far ahead of what is pressed light hangs on it."""

import itertools
import random
import unittest

from tests.helpers import BACK, HALL, LOOP, plain_light, same, small_levels, some_levels, subsets
from tests.test_alike import first_parting, lists_over, seen, some_letters
from timedoors.alike import are_alike
from timedoors.errors import InvalidLetters, InvalidLevel, InvalidLights, InvalidNumber
from timedoors.horizon import fewest_time_doors, hangs_ahead, horizon, unlike_ahead

FORTH = (3, [([0], 1, -1), ([1], 2, 1)])
TURNING = (3, [([0], 1, -1), ([1], 2, -1), ([1], 1, -1)])
LONGEST = 5


def drawn_rows(seed, levels):
    draw = random.Random(seed)
    rows = []
    for level in levels:
        watched = sorted(draw.sample(range(level[0]), draw.randint(1, level[0])))
        rows.append((level, some_letters(draw, level[0]), watched))
    return rows


def many_time_doors(seed, many):
    """Levels most of whose doors are time doors."""
    draw = random.Random(seed)
    return [(rooms, [(needs, room, draw.choice((shift, -1))) for needs, room, shift in doors])
            for rooms, doors in some_levels(seed, many, 4, 6)]


ROWS = drawn_rows(52, small_levels()[::6] + many_time_doors(521, 260))


def times_of(level):
    return [number for number, door in enumerate(level[1]) if door[2] == -1]


def with_times(level, kept):
    rooms, doors = level
    return rooms, [door for number, door in enumerate(doors) if door[2] != -1 or number in kept]


def unlike_within(level, letters, watched, ticks, longest=LONGEST):
    """The length of the shortest two lists as told, found by going through all pairs of lists."""
    for many in range(1, longest + 1):
        told = [(list(lot), seen(level, list(lot), watched)) for lot in itertools.product(letters, repeat=many)]
        for (one, lit), (other, other_lit) in itertools.combinations(told, 2):
            alike = next(at for at in range(many) if one[at] != other[at])
            unlike = next((at for at in range(many) if lit[at] != other_lit[at]), many)
            if unlike + ticks < alike:
                return many
    return None


class TimeDoors(unittest.TestCase):

    def test_52_the_first_of_the_fewest(self):
        sizes = {}
        for level, letters, watched in ROWS:
            times = times_of(level)
            lots = sorted(subsets(times), key=len)
            wanted = next(lot for lot in lots if first_parting(level, with_times(level, lot), letters, watched) is None)
            told = fewest_time_doors(level, letters, watched)
            self.assertTrue(same(told, wanted), (level, letters, watched))
            sizes[len(told)] = sizes.get(len(told), 0) + 1
        self.assertTrue(sizes[0] > 50 and sizes[1] > 20 and sizes[2] > 3, sizes)

    def test_52_alike_with_these_and_with_no_shorter_list(self):
        for level, letters, watched in ROWS:
            told = fewest_time_doors(level, letters, watched)
            self.assertTrue(are_alike(level, with_times(level, told), letters, watched))
            for lot in itertools.combinations(times_of(level), max(len(told) - 1, 0)):
                self.assertEqual(are_alike(level, with_times(level, list(lot)), letters, watched), not told)

    def test_52_none_exactly_if_alike_without_time_doors(self):
        for level, letters, watched in ROWS:
            alike = are_alike(level, with_times(level, []), letters, watched)
            self.assertEqual(fewest_time_doors(level, letters, watched) == [], alike)
            if alike:
                self.assertIs(hangs_ahead(level, letters, watched), False)

    def test_52_no_time_doors_and_equal_ones(self):
        self.assertEqual([fewest_time_doors((1, []), [[0]], [0]), fewest_time_doors(LOOP, [[]], [0, 1])], [[], []])
        twice = (2, [([0], 1, -1), ([0], 0, 0), ([0], 1, -1)])
        self.assertEqual(fewest_time_doors(twice, [[], [0]], [1]), [0])
        self.assertEqual(fewest_time_doors(BACK, [[], [0]], [2]), [1, 2])
        self.assertEqual(fewest_time_doors(HALL, [[], [0]], [1]), [2])

    def test_52_needed_and_yet_nothing_hangs_ahead(self):
        self.assertEqual(fewest_time_doors(FORTH, [[], [0]], [2]), [0])
        self.assertIs(hangs_ahead(FORTH, [[], [0]], [2]), False)
        self.assertIs(hangs_ahead(FORTH, [[], [0]], [1]), True)

    def test_52_hangs_ahead_exactly_if_two_lists_show_it(self):
        told = {True: 0, False: 0}
        for level, letters, watched in ROWS:
            hangs = hangs_ahead(level, letters, watched)
            self.assertIs(hangs, unlike_ahead(level, letters, watched, 0) is not None)
            found = unlike_within(level, letters, watched, 0)
            self.assertTrue(hangs or found is None, (level, letters, watched))
            told[hangs] += 1
        self.assertTrue(told[True] > 25 and told[False] > 100, told)

    def test_52_nothing_hangs_on_one_letter_or_on_no_watched_rooms(self):
        for level, letters, _ in ROWS[::5]:
            self.assertIs(hangs_ahead(level, letters[:1], list(range(level[0]))), False)
            self.assertIs(hangs_ahead(level, letters, []), False)
            self.assertEqual(fewest_time_doors(level, letters, []), [])
            self.assertEqual(horizon(level, letters, []), 0)


class HowFar(unittest.TestCase):

    def check_told(self, row, ticks, told):
        level, letters, watched = row
        self.assertIs(type(told), tuple)
        one, other, tick = told
        self.assertIs(type(tick), int)
        self.assertEqual(len(one), len(other))
        self.assertTrue(all(lights in letters for lights in one + other))
        self.assertTrue(0 <= tick and tick + ticks < len(one))
        self.assertEqual(one[:tick + ticks + 1], other[:tick + ticks + 1])
        self.assertNotEqual(seen(level, one, watched)[:tick + 1], seen(level, other, watched)[:tick + 1])

    def test_53_judged_by_both_lights_and_as_short_as_can_be(self):
        lengths = {}
        for row in ROWS:
            for ticks in (0, 1, 2):
                told = unlike_ahead(*row, ticks)
                found = unlike_within(*row, ticks)
                if told is None or len(told[0]) > LONGEST:
                    self.assertIsNone(found, (row, ticks))
                else:
                    self.assertEqual(len(told[0]), found, (row, ticks))
                if told is not None:
                    self.check_told(row, ticks, told)
                    lengths[len(told[0])] = lengths.get(len(told[0]), 0) + 1
        self.assertTrue(all(lengths[many] > 5 for many in (2, 3, 4)), lengths)

    def test_53_the_horizon_is_the_least_number_with_none(self):
        horizons = {}
        for row in ROWS:
            least = horizon(*row)
            horizons[least] = horizons.get(least, 0) + 1
            for ticks in (0, 1, 2, 3, 6, 20):
                told = unlike_ahead(*row, ticks)
                self.assertEqual(told is None, least is not None and ticks >= least, (row, ticks))
                if told is not None:
                    self.check_told(row, ticks, told)
        self.assertTrue(horizons[None] > 20 and horizons[0] > 100 and horizons[1] > 10, horizons)

    def test_53_far_horizons(self):
        for many in range(1, 6):
            # Light goes back by one room for each tick, and only the last room is watched.
            level = (6, [([room], room + 1, -1) for room in range(many)])
            self.assertEqual(horizon(level, [[], [0]], [many]), many)
            self.assertEqual(len(unlike_ahead(level, [[], [0]], [many], many - 1)[0]), many + 1)
            self.assertIsNone(unlike_ahead(level, [[], [0]], [many], many))
            self.assertIsNone(unlike_ahead(level, [[], [0]], [many], 10 ** 29))

    def test_53_a_horizon_that_is_none(self):
        self.assertIsNone(horizon(TURNING, [[], [0]], [2]))
        self.assertIsNone(horizon(BACK, [[], [0]], [0, 1, 2]))
        for ticks in (0, 1, 5, 20):
            told = unlike_ahead(TURNING, [[], [0]], [2], ticks)
            self.check_told((TURNING, [[], [0]], [2]), ticks, told)
            self.assertEqual(len(told[0]), max(ticks + 2, 3))

    def test_53_other_letters_press_ahead_too(self):
        # The room 0 alone hangs on nothing behind it, but it lets light back that comes from room 1.
        level = (4, [([1], 2, -1), ([0, 2], 3, 0)])
        told = unlike_ahead(level, [[], [0], [1]], [3], 0)
        self.check_told((level, [[], [0], [1]], [3]), 0, told)
        self.assertEqual([len(told[0]), horizon(level, [[], [0], [1]], [3])], [2, 1])
        self.assertEqual([horizon(level, [[], [0]], [3]), horizon(level, [[], [1]], [3])], [0, 0])
        self.assertEqual(horizon(level, [[0], [0, 1]], [3]), 1)

    def test_53_the_shorter_one_of_two_ways(self):
        # From room 0 light goes back by four ticks, from room 4 by one, and from room 5 only to where none looks.
        level = (6, [([0], 1, -1), ([1], 2, -1), ([2], 3, -1), ([4], 3, -1), ([5], 5, -1)])
        for letters, length in (([[], [0], [4]], 2), ([[], [0], [5]], 4), ([[], [4], [5]], 2)):
            told = unlike_ahead(level, letters, [3], 0)
            self.check_told((level, letters, [3]), 0, told)
            self.assertEqual(len(told[0]), length)
        self.assertEqual([horizon(level, [[], [0], [4]], [3]), horizon(level, [[], [4], [5]], [3])], [3, 1])
        self.assertEqual([len(unlike_ahead(level, [[], [0], [4]], [3], ticks)[0]) for ticks in (0, 1, 2)], [2, 4, 4])

    def test_53_ticks_ahead_are_needed_too(self):
        # What comes back from room 2 shows only where a light has come on through room 0 and 1 by two ticks.
        level = (4, [([0], 1, 1), ([2], 2, -1), ([1, 2], 3, 0)])
        told = unlike_ahead(level, [[], [0], [2]], [3], 0)
        self.check_told((level, [[], [0], [2]], [3]), 0, told)
        self.assertEqual(len(told[0]), 3)

    def test_53_ends_and_ticks_ahead_are_added(self):
        # One way takes two ticks of ends and one ahead, another one takes one tick of ends and four ahead.
        slow = [([1], 0, -1), ([0, 8], 3, 0), ([1], 6, 1), ([6], 7, 1), ([7], 8, 1)]
        quick = [([2], 4, -1), ([4], 5, -1), ([5], 3, 0)]
        for doors, letters, length in ((slow, [[], [1]], 5), (quick, [[], [2]], 3), (slow + quick, [[], [1], [2]], 3)):
            told = unlike_ahead((9, doors), letters, [3], 0)
            self.check_told(((9, doors), letters, [3]), 0, told)
            self.assertEqual(len(told[0]), length)

    def test_53_equal_calls_return_equal_results(self):
        for row in ROWS[::4]:
            self.assertTrue(same(unlike_ahead(*row, 0), unlike_ahead(*row, 0)))

    def test_53_wrong_values_in_order(self):
        for values, error, told in (
                ((None, [], [9], -1), InvalidLevel, None), ((BACK, [], [9], -1), InvalidLetters, []),
                ((BACK, [[]], [9], -1), InvalidLights, [9]), ((BACK, [[]], [0], -1), InvalidNumber, -1),
                ((BACK, [[]], [0], True), InvalidNumber, True), ((BACK, [[]], [0], None), InvalidNumber, None)):
            with self.assertRaises(error) as caught:
                unlike_ahead(*values)
            self.assertIs(caught.exception.value, told if told is None else values[values.index(told)])
            if error is not InvalidNumber:
                for function in (fewest_time_doors, hangs_ahead, horizon):
                    with self.assertRaises(error):
                        function(*values[:3])


class Lists(unittest.TestCase):

    def test_52_longer_lists_show_nothing_new(self):
        for level, letters, watched in ROWS[::9]:
            if not hangs_ahead(level, letters, watched):
                for one in lists_over(letters, LONGEST + 1):
                    lit = [set(lights) & set(watched) for lights in plain_light(level, one)]
                    for many in range(len(one)):
                        # What is lit up to a tick is told by the presses up to it, with any letters behind.
                        other = one[:many] + letters[:1] * (len(one) - many)
                        told = [set(lights) & set(watched) for lights in plain_light(level, other)]
                        self.assertEqual(lit[:many], told[:many])


if __name__ == "__main__":
    unittest.main()
