"""[3], [4] and the limits of the points from [25] on: each function works up to them within seconds."""

import itertools
import random
import unittest

from tests.test_limits import HUGE, Timed, widest_level
from tests.wide import FOUR_PLACES, IDLE, MANY_STATES, RESCUES
from timedoors import alike, beside, counting, endless, hands, houses, puzzles, reasons, rescue


def widest_house(draw, rights):
    """6 places and 15 steps, from each place some."""
    steps = [(place, (place + 1) % 6, sorted(draw.sample(range(6), draw.choice((0, 1))))) for place in range(6)]
    for _ in range(9):
        place, goal = draw.sample(range(6), 2)
        steps.append((place, goal, sorted(draw.sample(range(6), draw.choice((0, 1, 1, 2))))))
    plates = [sorted(draw.sample(range(6), draw.choice((0, 1, 1)))) for _ in range(6)]
    return widest_level(draw, rights), plates, steps


def long_walk(draw, house, ticks):
    walk = [draw.randrange(len(house[1]))]
    while len(walk) < ticks:
        walk.append(draw.choice([walk[-1]] + [goal for place, goal, _ in house[2] if place == walk[-1]]))
    return walk


class Ends(Timed):

    def setUp(self):
        draw = random.Random(25)
        self.rows = []
        for rights in (2, 3, 4, 5, 6):
            presses = [sorted(draw.sample(range(6), draw.choice((0, 0, 1)))) for _ in range(30)]
            self.rows.append((widest_level(draw, rights), presses))

    def test_25_endless_presses_of_12_and_12_ticks(self):
        for level, presses in self.rows:
            for told in ((presses[:12], presses[12:24]), ([], [[]]), (presses[:12], [presses[12]])):
                history = self.timed(endless.for_ever, level, told)
                self.assertTrue(self.timed(endless.keeps_for_ever, level, told, history))
                self.assertIn(self.timed(endless.for_ever_at, level, told, HUGE), history[0] + history[1])
                self.timed(endless.stays_from, level, told, 60)

    def test_28_a_press_more_in_30_ticks(self):
        for level, presses in self.rows:
            for tick in (0, 15, 29):
                ticks = self.timed(endless.changed, level, presses, tick, [0, 5])
                self.assertEqual([at for at, _ in self.timed(endless.added, level, presses, tick, [0, 5])], ticks)
                self.assertLessEqual(self.timed(endless.reach_back, level, presses, tick, [0, 5]), tick)


class Hands(Timed):

    def test_31_six_walks_of_30_places(self):
        draw = random.Random(31)
        for rights in (2, 3, 4, 5, 6):
            house = widest_house(draw, rights)
            walks = [long_walk(draw, house, 30) for _ in range(6)]
            self.assertTrue(self.timed(houses.is_house, house))
            self.assertTrue(all(self.timed(houses.is_walk, house, walk) for walk in walks))
            self.timed(houses.pressed_by, house, walks)
            self.timed(houses.hands_light, house, walks)
            self.timed(hands.open_steps, house, walks, 5)
            self.timed(hands.first_shut, house, walks)
            left = self.timed(hands.greatest_playable, house, walks)
            out = [number for told in self.timed(hands.why_unplayable, house, walks) for number, _ in told]
            self.assertEqual(sorted(left + out), list(range(6)))
            self.timed(hands.earned, house, walks)
            self.timed(hands.opened_by, house, walks, 5, 28)
            self.timed(hands.debts, house, walks)
            self.assertEqual(len(self.timed(hands.put_off, walks, 30)[0]), 60)

    def test_35_twelve_stays_of_30_figures(self):
        draw = random.Random(35)
        for rights in (2, 3, 4, 5, 6):
            house = widest_house(draw, rights)
            stays = [(at % 6, draw.randint(10 ** 29, HUGE)) for at in range(12)]
            self.assertTrue(self.timed(hands.are_stays, house, stays))
            self.assertEqual(len(self.timed(hands.far_steps, house, stays)), 11)


class Puzzles(Timed):

    def test_38_houses_with_2000_states(self):
        for house in MANY_STATES:
            states = self.timed(puzzles.states_met, house, 0)
            self.assertTrue(1900 <= len(states) <= 2000)
            for goal in (1, 4):
                walk = self.timed(puzzles.shortest_walk, house, 0, goal)
                paper = self.timed(puzzles.no_walk_paper, house, 0, goal)
                self.assertEqual(paper is None, walk is not None)
                self.assertIs(self.timed(puzzles.is_no_walk_paper, house, 0, goal, states), walk is None)
            for room in (0, 3):
                self.timed(puzzles.shortest_lighting, house, 0, room)
            self.timed(puzzles.state_of, house, long_walk(random.Random(38), house, 30))

    def test_40_lengths_up_to_60(self):
        for house in MANY_STATES:
            many = self.timed(counting.how_many_walks, house, 0, 1, 60)
            self.assertIsNone(self.timed(counting.walk_numbered, house, 0, 1, 60, many))
            for number in sorted({0, many // 3, max(many - 1, 0)}):
                walk = self.timed(counting.walk_numbered, house, 0, 1, 60, number)
                if number < many:
                    self.assertEqual(self.timed(counting.number_of_walk, house, walk), number)

    def test_41_three_elder_walks_of_30_places(self):
        draw = random.Random(41)
        for house in FOUR_PLACES:
            for walks in ([long_walk(draw, house, 30) for _ in range(3)], [[0] * 30] * 3, []):
                walk = self.timed(beside.shortest_beside, house, walks, 0, 1)
                many = 0 if walk is None else beside.how_many_beside(house, walks, 0, 1, len(walk) - 1)
                self.assertEqual(many > 0, walk is not None)
                self.timed(beside.how_many_beside, house, walks, 0, 1, 60)

    def test_42_presses_of_30_ticks_and_up_to_four_letters(self):
        for level, presses, letters, settled in RESCUES:
            self.assertEqual(self.timed(rescue.settled_past, level, presses, letters), settled)
            for tick, room in itertools.product((0, 7, 15, 28, 29), range(6)):
                told = self.timed(rescue.rescue, level, presses, letters, tick, room)
                self.assertTrue(not told or tick >= settled)


class Reasons(Timed):

    def test_43_ten_presses_in_30_ticks(self):
        draw = random.Random(43)
        for rights in (2, 4, 6):
            level = widest_level(draw, rights)
            presses = [[draw.randrange(6)] if tick % 3 == 1 else [] for tick in range(30)]
            every = self.timed(reasons.presses_in, level, presses)
            self.assertEqual(len(every), 10)
            self.timed(reasons.with_only, level, presses, every[:5])
            self.timed(reasons.without, level, presses, every[:5])
            self.assertEqual(self.timed(reasons.is_added, level, presses), not self.timed(reasons.together, level, presses))
            self.assertEqual(len(self.timed(reasons.alone, level, 30, 15, 0)), 30)
            for tick, room in ((1, 0), (15, 3), (29, 5)):
                found = self.timed(reasons.reasons, level, presses, tick, room)
                cut = self.timed(reasons.cuts, level, presses, tick, room)
                self.assertEqual([self.timed(reasons.crossing, found), reasons.crossing(cut)], [cut, found])
                self.assertTrue(all(self.timed(reasons.is_reason, level, presses, tick, room, lot) for lot in found))
                self.assertTrue(all(self.timed(reasons.is_cut, level, presses, tick, room, lot) for lot in cut))
                for function in (reasons.fewest_reason, reasons.fewest_cut, reasons.sure_presses, reasons.idle_presses,
                                 reasons.how_many_light):
                    self.timed(function, level, presses, tick, room)

    def test_45_300_lists_over_10_items(self):
        items = [(tick, 10 ** 29) for tick in range(10)]
        for size in range(1, 11):
            lots = [list(lot) for lot in itertools.combinations(items, size)]
            told = self.timed(reasons.crossing, (lots * 300)[:300])
            self.assertEqual(told, [list(lot) for lot in itertools.combinations(items, 11 - size)])
        draw = random.Random(45)
        for _ in range(5):
            lots = [sorted(draw.sample(items, draw.randint(3, 7))) for _ in range(300)]
            told = self.timed(reasons.crossing, lots)
            self.assertTrue(all(set(lot) & set(other) for lot in told for other in lots))


class Alike(Timed):

    def test_48_two_levels_with_2000_states(self):
        level, letters, watched = IDLE
        self.assertTrue(self.timed(alike.are_alike, level, level, letters, watched))
        for number in range(12):
            other = self.timed(alike.without_doors, level, [number])
            told = self.timed(alike.parting, level, other, letters, watched)
            self.assertIs(self.timed(alike.is_parting, level, other, letters, watched, told), told is not None)
        for room in range(6):
            self.timed(alike.lighting, level, letters, room)
        self.assertTrue(self.timed(alike.is_parting, level, (6, []), letters, list(range(6)), letters * 10))

    def test_50_twelve_doors(self):
        level, letters, watched = IDLE
        idle = self.timed(alike.idle_doors, level, letters, watched)
        for number in (0, 5, 11):
            lot = [other for other in range(12) if other != number]
            self.assertIs(self.timed(alike.is_enough, level, letters, watched, lot), number in idle)

    def test_51_six_doors(self):
        draw = random.Random(51)
        for _ in range(6):
            _, doors = widest_level(draw, 4)
            level = (6, draw.sample(doors, 6))
            least = self.timed(alike.least_lots, level, [[], [0], [1, 2]], list(range(6)))
            self.assertTrue(all(self.timed(alike.is_enough, level, [[], [0], [1, 2]], list(range(6)), lot) for lot in least))


if __name__ == "__main__":
    unittest.main()
