"""[3], [4]: each function works up to the limits within seconds, and leaves what it is handed as it was."""

import copy
import random
import time
import unittest

from tests.helpers import same
from timedoors import far, levels, light, rests, tables, texts, trails

SECONDS = 10
HUGE = 10 ** 30 - 1


def widest_level(draw, rights):
    """6 rooms, 12 doors, and 8 right and left rooms together."""
    doors = []
    for shift, many in ((1, rights), (-1, 8 - rights)):
        for room in draw.sample(range(6), many):
            doors.append((sorted(draw.sample(range(6), draw.choice((1, 1, 2)))), room, shift))
    while len(doors) < 12:
        doors.append((sorted(draw.sample(range(6), draw.randint(1, 3))), draw.randrange(6), 0))
    draw.shuffle(doors)
    return (6, doors)


class Timed(unittest.TestCase):

    def timed(self, function, *arguments):
        before = copy.deepcopy(arguments)
        start = time.perf_counter()
        told = function(*arguments)
        self.assertLess(time.perf_counter() - start, SECONDS, function.__name__)
        self.assertTrue(same(arguments, before))
        return told


class Limits(Timed):

    def setUp(self):
        draw = random.Random(30)
        self.rows = []
        for rights in (2, 3, 4, 5, 6):
            level = widest_level(draw, rights)
            presses = [sorted(draw.sample(range(6), draw.choice((0, 0, 1, 2)))) for _ in range(30)]
            lights = [sorted(draw.sample(range(6), draw.choice((0, 0, 1)))) for _ in range(12)]
            runs = [(told, draw.randint(10 ** 29, HUGE)) for told in lights]
            self.rows.append((level, presses, runs))
        turning = (6, [([5], 3, 1), ([1, 3], 1, 1), ([1, 4], 2, 1), ([0], 5, 1), ([2], 0, 1), ([1], 4, 1), ([3], 1, 1)])
        self.rows.append((turning, [[]] * 30, [([], HUGE)] * 12))

    def test_3_levels_and_texts(self):
        for level, presses, runs in self.rows:
            self.assertTrue(self.timed(levels.is_level, level))
            self.assertEqual(self.timed(levels.how_many_ticks, level, runs), sum(many for _, many in runs))
            self.assertEqual(len(self.timed(levels.spread_out, level, [(presses[0], 25)] * 12)), 300)
            endless = (presses[:12], presses[12:24])
            self.timed(levels.plain_endless, level, endless)
            self.assertIn(self.timed(levels.pressed_at, level, endless, HUGE), presses)
            self.assertTrue(same(texts.level_of_text(self.timed(texts.text_of_level, level)), level))
            self.assertEqual(self.timed(texts.presses_of_text, level, texts.text_of_presses(level, presses)), presses)
            self.assertEqual(self.timed(texts.history_in, level, texts.picture(level, presses)), presses)

    def test_3_light_and_trails(self):
        for level, presses, _ in self.rows:
            lit = self.timed(light.light, level, presses)
            self.assertTrue(self.timed(light.keeps, level, presses, lit))
            self.assertGreater(self.timed(light.how_many_keep, level, presses), 0)
            self.timed(light.lit_rounds, level, presses)
            self.timed(light.gained, level, presses, presses[::-1])
            self.timed(trails.sole_light, level, presses)
            for room in range(6):
                self.timed(trails.first_trail, level, presses, 29, room)
                self.assertEqual(self.timed(trails.how_many_without, level, presses, 0, room) == 0, room in lit[0])

    def test_4_tables_and_rests(self):
        for level, presses, _ in self.rows:
            table = self.timed(tables.table_of, level, presses)
            self.assertEqual(len(table), 1 << (len(levels.right_rooms(level)) + len(levels.left_rooms(level))))
            self.assertTrue(self.timed(tables.is_table, level, table))
            self.timed(tables.joined, level, table, table)
            self.timed(tables.repeats, level, presses[:3])
            self.timed(tables.can_stand_for, level, presses, presses[1:])
            rest, front = self.timed(rests.rest_table, level, presses), self.timed(rests.front_table, level, presses)
            self.assertTrue(self.timed(rests.is_rest, level, rest) and self.timed(rests.is_front, level, front))
            self.timed(rests.rest_ahead, level, [0], rest)
            self.timed(rests.front_behind, level, front, [0])
            self.timed(rests.lit_between, level, front, [0], rest)
            self.timed(rests.settled, level, presses)

    def test_4_far(self):
        for level, _, runs in self.rows:
            ticks = levels.how_many_ticks(level, runs)
            self.timed(far.far_table, level, runs)
            for tick in (ticks // 2, ticks - 1):
                lit = self.timed(far.far_light, level, runs, tick)
                paper = self.timed(far.far_dark_paper, level, runs, tick, 3)
                self.assertEqual(paper is None, 3 in lit)
                if paper is not None:
                    self.assertTrue(self.timed(far.is_far_dark, level, runs, tick, 3, paper))
            many = self.timed(far.times_lit, level, runs, 3)
            first, last = self.timed(far.first_lit, level, runs, 3), self.timed(far.last_lit, level, runs, 3)
            self.assertEqual([first is None, last is None], [many == 0] * 2)
            if many > 0:
                self.assertTrue(last - first + 1 >= many)
                self.assertIn(3, far.far_light(level, runs, first))
                self.assertIn(3, far.far_light(level, runs, last))


if __name__ == "__main__":
    unittest.main()
