"""[19] to [21]: far ticks told by runs."""

import itertools
import random
import unittest

from tests.helpers import LOOP, RELAY, lefts_of, odd_values, plain_light, plain_line, plain_sent, plain_table, rights_of
from tests.helpers import same, small_levels, some_levels, some_presses, spread, subsets
from timedoors import errors
from timedoors.far import far_dark_paper, far_light, far_table, first_lit, is_far_dark, last_lit, times_lit
from timedoors.light import light
from timedoors.tables import joined, table_of

HUGE = 10 ** 30 - 1
TURN = (3, [([0], 1, 1), ([1], 2, 1), ([2], 0, 1)])


def some_runs(seed, many):
    draw = random.Random(seed)
    rows = []
    for level in some_levels(seed, many, 5, 8):
        runs = [(lights, draw.choice([0, 1, 1, 2, 3, 5])) for lights in some_presses(draw, level[0], draw.randint(1, 5))]
        rows.append((level, runs))
    return rows


def small_rows():
    """Small levels with all runs of three one after the other, of few ticks."""
    rows = []
    for at, level in enumerate(small_levels()[::4]):
        letters = subsets(range(level[0]))
        for k in range(6):
            lights = [letters[(at + k * step) % len(letters)] for step in (1, 2, 3)]
            rows.append((level, list(zip(lights, [(1, 0, 2), (2, 1, 1), (0, 0, 1), (3, 1, 0), (0, 4, 1), (1, 1, 1)][k]))))
    return rows


def is_paper_by_the_words(level, presses, tick, room, right, left):
    now = (level[0], [door for door in level[1] if door[2] == 0])
    lit = plain_light(now, [sorted({*presses[tick], *right, *left})])[0]
    from_ahead = plain_line(level, presses[:tick], [], plain_sent(level, lit, -1))[3]
    from_behind = plain_line(level, presses[tick + 1:], plain_sent(level, lit, 1), [])[2]
    return room not in lit and set(from_ahead) <= set(right) and set(from_behind) <= set(left)


class FarLight(unittest.TestCase):

    def test_19_up_to_30_ticks_it_is_the_light(self):
        for level, runs in small_rows() + some_runs(19, 150):
            presses = spread(runs)
            lit = light(level, presses)
            for tick in range(len(presses)):
                self.assertTrue(same(far_light(level, runs, tick), lit[tick]))

    def test_19_the_table_of_all_ticks(self):
        for level, runs in some_runs(190, 60):
            self.assertTrue(same(far_table(level, runs), plain_table(level, spread(runs))))
        for level in small_levels()[::10]:
            for many in range(6):
                self.assertEqual(far_table(level, [([0], many)]), plain_table(level, [[0]] * many))
        self.assertEqual(far_table(RELAY, []), table_of(RELAY, []))
        self.assertEqual(far_table(RELAY, [([0], 0), ([], 0)]), table_of(RELAY, []))

    def test_19_tables_of_many_ticks(self):
        for many, rest in [(10 ** 29, 1), (10 ** 29 + 1, 2), (10 ** 29 + 2, 0), (3, 0), (HUGE, 0)]:
            self.assertEqual(many % 3, rest)
            self.assertEqual(far_table(TURN, [([], many)]), table_of(TURN, [[]] * (rest + 3)))
        whole = far_table(RELAY, [([], HUGE), ([0], HUGE)])
        self.assertEqual(whole, joined(RELAY, far_table(RELAY, [([], HUGE)]), far_table(RELAY, [([0], HUGE)])))

    def test_19_numbers_of_30_figures(self):
        runs = [([0], 1), ([], HUGE)]
        for tick in [0, 1, 2, 3, 10 ** 29, 10 ** 29 + 1, 10 ** 29 + 2, HUGE - 1, HUGE]:
            self.assertEqual(far_light(TURN, runs, tick), [tick % 3])
        relay = [([], 10 ** 20), ([0], 1), ([], 10 ** 20)]
        told = [far_light(RELAY, relay, tick) for tick in (0, 10 ** 20 - 2, 10 ** 20 - 1, 10 ** 20, 10 ** 20 + 1)]
        self.assertEqual(told, [[], [], [1], [0, 1], [0, 1]])
        self.assertEqual(far_light(RELAY, relay, 2 * 10 ** 20), [0])
        for tick in (0, 1, HUGE - 1, HUGE, HUGE + 2):
            self.assertEqual(far_light(LOOP, [([], HUGE), ([0], 1), ([], 2)], tick), [0, 1])
        for tick, told in [(0, []), (1, []), (HUGE - 1, []), (HUGE, [0])]:
            self.assertEqual(far_light(LOOP, [([], HUGE), ([0], 1)], tick), told)

    def test_19_the_tick_is_one_of_theirs(self):
        for runs, tick in [([], 0), ([([0], 0)], 0), ([([0], 3)], 3), ([([0], HUGE)], HUGE), ([([0], 3)], -1)]:
            for call in (lambda: far_light(RELAY, runs, tick), lambda: far_dark_paper(RELAY, runs, tick, 0),
                         lambda: is_far_dark(RELAY, runs, tick, 0, ([], []))):
                with self.assertRaises(errors.InvalidNumber) as caught:
                    call()
                self.assertIs(caught.exception.value, tick)
        self.assertEqual(far_light(RELAY, [([1], 0), ([0], 2), ([1], 0)], 1), [0])


class Marks(unittest.TestCase):

    def test_20_how_often_first_and_last(self):
        for level, runs in small_rows() + some_runs(20, 150):
            lit = plain_light(level, spread(runs))
            for room in range(level[0]):
                ticks = [tick for tick, lights in enumerate(lit) if room in lights]
                self.assertTrue(same(times_lit(level, runs, room), len(ticks)))
                self.assertTrue(same(first_lit(level, runs, room), ticks[0] if ticks else None))
                self.assertTrue(same(last_lit(level, runs, room), ticks[-1] if ticks else None))

    def test_20_numbers_of_30_figures(self):
        runs = [([0], 1), ([], HUGE)]
        self.assertEqual([times_lit(TURN, runs, room) for room in range(3)], [HUGE // 3 + 1, HUGE // 3, HUGE // 3])
        self.assertEqual([first_lit(TURN, runs, room) for room in range(3)], [0, 1, 2])
        self.assertEqual([last_lit(TURN, runs, room) for room in range(3)], [HUGE, HUGE - 2, HUGE - 1])
        late = [([], HUGE), ([1], HUGE), ([], 0), ([], 5)]
        self.assertEqual([first_lit(TURN, late, room) for room in range(3)], [HUGE + 2, HUGE, HUGE + 1])
        self.assertEqual([last_lit(TURN, late, room) for room in range(3)], [2 * HUGE + 4] * 3)
        self.assertEqual(times_lit((2, []), [([0], HUGE), ([1], 7), ([0, 1], HUGE)], 0), 2 * HUGE)
        self.assertEqual(times_lit((2, []), [([0], HUGE), ([1], 7), ([0, 1], HUGE)], 1), HUGE + 7)

    def test_20_what_is_never_lit(self):
        for runs in ([], [([], 0)], [([], HUGE)] * 12, [([0], 0), ([], 4)]):
            self.assertTrue(same(times_lit(RELAY, runs, 0), 0))
            self.assertIsNone(first_lit(RELAY, runs, 0))
            self.assertIsNone(last_lit(RELAY, runs, 1))

    def test_20_the_first_and_the_last_tick(self):
        self.assertEqual([first_lit(RELAY, [([0], 1)], 0), last_lit(RELAY, [([0], 1)], 0)], [0, 0])
        self.assertEqual([first_lit((1, []), [([], 9), ([0], 1)], 0), last_lit((1, []), [([0], 1), ([], 9)], 0)], [9, 0])


class Papers(unittest.TestCase):

    def test_21_there_is_one_exactly_if_the_room_is_dark(self):
        for level, runs in small_rows()[::3] + some_runs(21, 60):
            presses = spread(runs)
            lit = plain_light(level, presses)
            ways = list(itertools.product(subsets(rights_of(level)), subsets(lefts_of(level))))
            for tick, room in itertools.product(range(len(presses)), range(level[0])):
                papers = []
                for right, left in ways:
                    fits = is_paper_by_the_words(level, presses, tick, room, right, left)
                    self.assertIs(is_far_dark(level, runs, tick, room, (right, left)), fits)
                    papers.extend([(right, left)] if fits else [])
                self.assertEqual(papers == [], room in lit[tick])
                least = far_dark_paper(level, runs, tick, room)
                self.assertEqual(least is None, papers == [])
                if papers:
                    self.assertIn(least, papers)
                    self.assertTrue(all(set(least[at]) <= set(paper[at]) for paper in papers for at in (0, 1)))

    def test_21_other_values_are_no_papers(self):
        runs = [([], 5), ([1], 1), ([], 4)]
        self.assertIs(is_far_dark(RELAY, runs, 2, 0, ([], [])), True)
        wrong = [([], [], []), [[], []], ([],), ((), []), ([], ()), ([1], []), ([], [0]), ([True], []), ([], [True]),
                 ([], [1, 1]), ([False], []), (None, []), ([], None), ([], [2])]
        for value in odd_values() + wrong:
            if value != ([], []):
                self.assertIs(is_far_dark(RELAY, runs, 2, 0, value), False)
        self.assertIs(is_far_dark(RELAY, runs, 2, 0, ([], [1])), True)
        self.assertIs(is_far_dark(RELAY, runs, 2, 0, ([0], [1])), False)

    def test_21_far_papers(self):
        runs = [([0], 1), ([], HUGE)]
        self.assertEqual(far_dark_paper(TURN, runs, 3 * 10 ** 29, 1), ([0], []))
        self.assertIsNone(far_dark_paper(TURN, runs, 3 * 10 ** 29, 0))
        self.assertIs(is_far_dark(TURN, runs, 3 * 10 ** 29, 1, ([0], [])), True)
        self.assertIs(is_far_dark(TURN, runs, 3 * 10 ** 29, 1, ([0, 2], [])), True)
        self.assertIs(is_far_dark(TURN, runs, 3 * 10 ** 29, 1, ([2], [])), False)
        self.assertIs(is_far_dark(TURN, runs, 3 * 10 ** 29, 1, ([0, 1], [])), False)
        relay = [([], 10 ** 20), ([0], 1), ([], 10 ** 20)]
        self.assertEqual(far_dark_paper(RELAY, relay, 10 ** 20 - 1, 0), ([], [1]))
        self.assertEqual(far_dark_paper(RELAY, relay, 5, 1), ([], []))


if __name__ == "__main__":
    unittest.main()
