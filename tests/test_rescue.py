"""[42]: what lists over letters, pressed behind all presses, light, against the light of each list."""

import itertools
import random
import unittest

from tests.helpers import BACK, HALL, plain_light, same, small_levels, some_levels, some_presses, subsets
from timedoors.errors import InvalidLetters, InvalidLevel, InvalidNumber, InvalidPresses, InvalidRoom
from timedoors.rescue import rescue, settled_past

LONGEST = 4
# The rooms 0 and 1 have been lit ever since, and where they meet the room 2 is.
LATE = (4, [([0], 0, -1), ([1], 1, -1), ([0, 1], 2, -1), ([2], 2, -1)])


def lists_over(letters, longest):
    """All lists over the letters, shorter ones first, then in order."""
    return [list(lot) for many in range(longest + 1) for lot in itertools.product(letters, repeat=many)]


def drawn_rows(seed, levels):
    draw = random.Random(seed)
    rows = []
    for level in levels:
        letters = sorted(draw.sample(subsets(range(level[0])), draw.randint(1, 2)))
        rows.append((level, some_presses(draw, level[0], draw.randint(0, 3)), letters))
    return rows


def lasting_rows(seed, many):
    """Levels in which light lasts, to the one side or the other, and meets: so that it takes long lists."""
    draw = random.Random(seed)
    rows = []
    for _ in range(many):
        doors = [([room], room, draw.choice((-1, -1, 1))) for room in (0, 1)]
        doors += [([0, 1], 2, draw.choice((-1, 0))), ([2], draw.choice((2, 3)), -1)]
        doors += [(sorted(draw.sample(range(4), draw.randint(1, 2))), draw.randrange(4), draw.choice((-1, 0, 1)))]
        letters = sorted(draw.sample([[], [0], [1], [3]], 2))
        rows.append(((4, doors), some_presses(draw, 4, draw.randint(1, 2)), letters))
    return rows


ROWS = drawn_rows(42, small_levels()[::2] + some_levels(421, 150, 3, 6)) + lasting_rows(422, 150)


class Rescue(unittest.TestCase):

    def test_42_the_first_list_that_lights_by_the_light_of_each(self):
        lengths = {}
        for level, presses, letters in ROWS:
            lists = lists_over(letters, LONGEST)
            lights = [plain_light(level, presses + behind) for behind in lists]
            for tick, room in itertools.product(range(len(presses)), range(level[0])):
                told = rescue(level, presses, letters, tick, room)
                found = next((behind for behind, lit in zip(lists, lights) if room in lit[tick]), None)
                if told is None or len(told) > LONGEST:
                    self.assertIsNone(found)
                else:
                    self.assertTrue(same(told, found), (level, presses, letters, tick, room))
                if told is not None:
                    self.assertIn(room, plain_light(level, presses + told)[tick])
                length = None if told is None else len(told)
                lengths[length] = lengths.get(length, 0) + 1
        self.assertTrue(lengths[None] > 50 and lengths[0] > 50 and lengths[1] > 20 and lengths[2] > 5, lengths)

    def test_42_a_room_that_is_lit_already_or_never(self):
        self.assertEqual(rescue(HALL, [[0]], [[2]], 0, 0), [])
        self.assertEqual(rescue(HALL, [[]], [[1]], 0, 1), [[1]])
        self.assertIsNone(rescue(HALL, [[]], [[], [0]], 0, 0))
        self.assertIsNone(rescue((1, []), [[]], [[0]], 0, 0))
        self.assertIsNone(rescue(BACK, [[]], [[]], 0, 2))

    def test_42_letters_of_one_item_and_long_lists(self):
        self.assertEqual([rescue(BACK, [[], []], [[0]], 0, 2), rescue(BACK, [[], []], [[0]], 0, 1)], [[[0]], None])
        self.assertEqual(rescue(LATE, [[]], [[0], [1]], 0, 2), [[0], [1]])
        self.assertEqual([rescue(LATE, [[]], [[1]], 0, 2), rescue(LATE, [[]], [[], [0, 1]], 0, 2)], [None, [[0, 1]]])
        meeting = (4, [([0], 1, 1), ([1], 2, 1), ([2, 3], 2, -1), ([2], 1, -1), ([1, 3], 0, 0)])
        self.assertEqual(rescue(meeting, [[0], []], [[], [3]], 1, 1), [])
        self.assertEqual(rescue(meeting, [[0]], [[], [3]], 0, 1), [[], [3]])
        # A signal goes on for three ticks, and just then a press sends it back.
        relay = (6, [([0], 1, 1), ([1], 2, 1), ([2], 3, 1), ([3, 5], 4, 0), ([4], 4, -1)])
        self.assertEqual(rescue(relay, [[0]], [[], [5]], 0, 4), [[], [], [5]])
        self.assertEqual(rescue(relay, [[0], []], [[], [5]], 0, 4), [[], [5]])
        self.assertEqual(rescue(relay, [[0], [], [], []], [[], [5]], 0, 4), None)

    def test_42_wrong_values_are_refused_for_themselves(self):
        for values, error, told in (
                (((0, []), [[9]], [], 5, 9), InvalidLevel, (0, [])), ((HALL, [[9]], [], 5, 9), InvalidPresses, [[9]]),
                ((HALL, [[]], [], 5, 9), InvalidLetters, []), ((HALL, [[]], [[1], [0]], 5, 9), InvalidLetters, [[1], [0]]),
                ((HALL, [[]], [[]], 1, 9), InvalidNumber, 1), ((HALL, [], [[]], 0, 9), InvalidNumber, 0),
                ((HALL, [[]], [[]], 0, 3), InvalidRoom, 3), ((HALL, [[]], [[]], 0, True), InvalidRoom, True)):
            with self.assertRaises(error) as caught:
                rescue(*values)
            self.assertEqual(caught.exception.value, told)


class SettledPast(unittest.TestCase):

    def plainly(self, level, presses, letters, longest):
        """How many first ticks no list up to a length changes."""
        before = plain_light(level, presses)
        like = len(presses)
        for behind in lists_over(letters, longest):
            lit = plain_light(level, presses + behind)
            like = min([like] + [tick for tick in range(len(presses)) if lit[tick] != before[tick]])
        return like

    def test_42_no_list_changes_the_first_ticks_and_some_one_does_the_next(self):
        unlike = set()
        for level, presses, letters in ROWS:
            told = settled_past(level, presses, letters)
            # Two letters and as few rooms settle within so many ticks.
            self.assertTrue(same(told, self.plainly(level, presses, letters, 5)), (level, presses, letters))
            unlike.add((len(presses), told))
        self.assertGreaterEqual(len(unlike), 9)

    def test_42_with_further_presses_it_is_never_less(self):
        for level, presses, letters in ROWS[::3]:
            for behind in lists_over(letters, 2):
                self.assertLessEqual(settled_past(level, presses, letters),
                                     settled_past(level, presses + behind, letters))

    def test_42_what_lies_ahead_is_told_for_good(self):
        for level, presses, letters in ROWS[::3]:
            told = settled_past(level, presses, letters)
            lit = plain_light(level, presses)
            for tick, room in itertools.product(range(told), range(level[0])):
                self.assertEqual(rescue(level, presses, letters, tick, room), [] if room in lit[tick] else None)
            if told < len(presses):
                rooms = [rescue(level, presses, letters, told, room) for room in range(level[0])]
                self.assertTrue(any(rooms))

    def test_42_presses_of_no_tick_and_no_time_doors(self):
        self.assertEqual([settled_past(HALL, [], [[]]), settled_past((1, []), [], [[0]])], [0, 0])
        self.assertEqual(settled_past((2, [([0], 1, 1)]), [[], []], [[], [0]]), 2)
        self.assertEqual(settled_past(HALL, [[], []], [[]]), 1)
        self.assertEqual(settled_past((2, [([0], 0, -1)]), [[]] * 4, [[], [0]]), 0)
        self.assertEqual(settled_past((2, [([0], 0, -1)]), [[], [0], [], []], [[], [0]]), 2)


if __name__ == "__main__":
    unittest.main()
