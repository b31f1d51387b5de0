"""[31] to [35]: which walks can be walked, against the light of the walks gone through one by one."""

import itertools
import random
import unittest

from tests.helpers import plain_light, same
from tests.plain_houses import (ALONE, BACK, CROSSED, FAR, SHUT, STILL, can_go, goals_of, plain_hands_light,
                                plain_opens, plain_pressed, plainly_playable, small_houses, some_houses, some_walks,
                                walks_from)
from timedoors.errors import InvalidNumber, InvalidWalk, InvalidWalks
from timedoors.far import far_light
from timedoors.hands import (are_stays, debts, earned, far_steps, first_shut, greatest_playable, open_steps, opened_by,
                             put_off, why_unplayable)


def drawn_rows(seed, many, most=4, length=5):
    draw = random.Random(seed)
    return [(house, some_walks(draw, house, draw.randint(0, most), length)) for house in some_houses(seed, many)]


def walks_of(house, length):
    return [walk for start in range(len(house[1])) for steps in range(length + 1)
            for walk in walks_from(house, start, steps)]


def without_time_doors(house):
    (rooms, doors), plates, steps = house
    return (rooms, [door for door in doors if door[2] != -1]), plates, steps


ONES = [(house, [walk]) for house in small_houses()[::3] for walk in walks_of(house, 3)]
ROWS = ONES + drawn_rows(31, 400)


class Open(unittest.TestCase):

    def test_31_open_in_the_light_of_all_walks(self):
        for house, walks in ROWS:
            lit = plain_hands_light(house, walks)
            shut = []
            for number, walk in enumerate(walks):
                wanted = plain_opens(house, lit, walk)
                self.assertTrue(same(open_steps(house, walks, number), wanted))
                shut.extend((number, tick) for tick, is_open in enumerate(wanted) if not is_open)
            self.assertTrue(same(first_shut(house, walks), min(shut, default=None)))

    def test_31_edges(self):
        self.assertEqual([first_shut(FAR, []), first_shut(FAR, [[0], [2], [1]])], [None, None])
        self.assertEqual([open_steps(ALONE, [[0]], 0), open_steps(ALONE, [[0, 0, 0]], 0)], [[], [True, True]])
        self.assertEqual(open_steps(SHUT, [[0, 0, 1, 1]], 0), [True, False, True])
        needless = ((1, []), [[], []], [(0, 1, [0]), (0, 1, []), (0, 1, [0])])
        self.assertEqual(open_steps(needless, [[0, 1]], 0), [True])

    def test_31_a_walk_opens_its_own_way_later(self):
        self.assertEqual(open_steps(BACK, [[0, 1]], 0), [True])
        self.assertEqual(open_steps(STILL, [[0, 1]], 0), [False])
        self.assertEqual(first_shut(BACK, [[0, 0, 1]]), None)

    def test_31_two_walks_open_it_for_one_another(self):
        self.assertEqual([first_shut(CROSSED, [[0, 1]]), first_shut(CROSSED, [[2, 3]])], [(0, 0), (0, 0)])
        self.assertEqual(first_shut(CROSSED, [[0, 1], [2, 3]]), None)

    def test_31_more_hands_never_shut_a_step(self):
        draw = random.Random(311)
        both_alone = 0
        for house in some_houses(311, 250):
            one, other = some_walks(draw, house, 2, 4), some_walks(draw, house, 2, 4)
            for number in range(2):
                less = open_steps(house, one, number)
                more = open_steps(house, one + other, number)
                self.assertTrue(all(now or not before for before, now in zip(less, more)))
            if first_shut(house, one) is None and first_shut(house, other) is None:
                both_alone += 1
                self.assertIsNone(first_shut(house, one + other))
        self.assertGreater(both_alone, 20)

    def test_31_the_number_is_one_of_a_walk(self):
        for walks, number in (([], 0), ([[0]], 1), ([[0]], -1), ([[0]], False)):
            with self.assertRaises(InvalidNumber) as caught:
                open_steps(BACK, walks, number)
            self.assertIs(caught.exception.value, number)


class Playable(unittest.TestCase):

    def plain_rounds(self, house, walks):
        left, rounds = list(range(len(walks))), []
        while True:
            lit = plain_hands_light(house, [walks[number] for number in left])
            shut = []
            for number in left:
                opens = plain_opens(house, lit, walks[number])
                if False in opens:
                    shut.append((number, opens.index(False)))
            if not shut:
                return left, rounds
            rounds.append(shut)
            left = [number for number in left if number not in [out for out, _ in shut]]

    def test_32_the_greatest_part_has_all_playable_parts_within(self):
        unlike = set()
        for house, walks in ROWS:
            greatest = greatest_playable(house, walks)
            self.assertTrue(plainly_playable(house, [walks[number] for number in greatest]))
            for size in range(len(walks) + 1):
                for part in itertools.combinations(range(len(walks)), size):
                    if plainly_playable(house, [walks[number] for number in part]):
                        self.assertTrue(set(part) <= set(greatest))
            unlike.add((len(walks), len(greatest)))
        self.assertGreater(len(unlike), 10)

    def test_32_rounds_of_leaving_out(self):
        long = 0
        for house, walks in ROWS + drawn_rows(32, 300, most=6):
            left, rounds = self.plain_rounds(house, walks)
            self.assertTrue(same(greatest_playable(house, walks), left))
            self.assertTrue(same(why_unplayable(house, walks), rounds))
            long += len(rounds) > 1
        self.assertGreater(long, 5)

    def test_32_edges(self):
        self.assertEqual([greatest_playable(FAR, []), why_unplayable(FAR, [])], [[], []])
        self.assertEqual([greatest_playable(SHUT, [[0, 1]]), why_unplayable(SHUT, [[0, 1]])], [[], [[(0, 0)]]])
        self.assertEqual([greatest_playable(CROSSED, [[2, 3], [0, 1]]), why_unplayable(CROSSED, [[2, 3], [0, 1]])],
                         [[0, 1], []])
        self.assertEqual(why_unplayable(STILL, [[0, 0, 1], [0, 1], [1, 0]]), [[(1, 0)]])
        # Without the first walk the second one is shut, too, and only then.
        chain = ((3, [([0], 1, 0)]), [[], [0], []], [(0, 2, [1]), (1, 0, [2])])
        self.assertEqual(why_unplayable(chain, [[1, 0], [0, 2]]), [[(0, 0)], [(1, 0)]])


class Earned(unittest.TestCase):

    def one_by_one(self, draw, house, walks):
        """How far hands come if just one of them goes on by one place at a time, in a drawn order."""
        come = [1] * len(walks)
        while True:
            lit = plain_hands_light(house, [walk[:many] for walk, many in zip(walks, come)])
            ready = []
            for number, (walk, many) in enumerate(zip(walks, come)):
                if many < len(walk):
                    lights = lit[many - 1] if many <= len(lit) else []
                    if can_go(house, lights, walk[many - 1], walk[many]):
                        ready.append(number)
            if not ready:
                return come
            come[draw.choice(ready)] += 1

    def test_33_the_same_numbers_in_whatever_order(self):
        draw = random.Random(33)
        for house, walks in ROWS:
            told = earned(house, walks)
            for _ in range(3):
                self.assertTrue(same(told, self.one_by_one(draw, house, walks)), (house, walks))

    def test_33_what_is_earned_whole_is_playable(self):
        make_themselves = 0
        for house, walks in ROWS:
            is_whole = earned(house, walks) == [len(walk) for walk in walks]
            self.assertTrue(not is_whole or plainly_playable(house, walks))
            make_themselves += plainly_playable(house, walks) and not is_whole
        self.assertGreater(make_themselves, 5)

    def test_33_playable_walks_that_are_not_earned(self):
        self.assertEqual([first_shut(BACK, [[0, 1]]), earned(BACK, [[0, 1]])], [None, [1]])
        self.assertEqual([first_shut(CROSSED, [[0, 1], [2, 3]]), earned(CROSSED, [[0, 1], [2, 3]])], [None, [1, 1]])
        self.assertEqual([earned(FAR, []), earned(ALONE, [[0, 0], [0]])], [[], [2, 1]])

    def test_33_one_walk_is_earned_whole_exactly_if_playable_without_debts(self):
        for house in small_houses()[::3] + some_houses(331, 60):
            for walk in walks_of(house, 3):
                is_whole = earned(house, [walk]) == [len(walk)]
                self.assertEqual(is_whole, plainly_playable(house, [walk]) and debts(house, [walk]) == [])

    def test_33_without_time_doors_all_playable_walks_are_earned(self):
        playable = 0
        for told, walks in ROWS:
            house = without_time_doors(told)
            if plainly_playable(house, walks):
                playable += 1
                self.assertEqual(earned(house, walks), [len(walk) for walk in walks])
        self.assertGreater(playable, 100)


class Debts(unittest.TestCase):

    def plainly(self, house, walks, number, tick):
        walk = walks[number]
        if walk[tick] == walk[tick + 1]:
            return 0
        presses = plain_pressed(house, walks)
        for many in range(len(presses) + 1):
            lit = plain_light(house[0], presses[:many])
            if tick < many and can_go(house, lit[tick], walk[tick], walk[tick + 1]):
                return many
        return None

    def test_34_the_least_number_of_first_ticks(self):
        late = 0
        for house, walks in ROWS:
            owed = []
            for number, walk in enumerate(walks):
                for tick in range(len(walk) - 1):
                    wanted = self.plainly(house, walks, number, tick)
                    self.assertTrue(same(opened_by(house, walks, number, tick), wanted))
                    if wanted is not None and wanted > tick + 1:
                        owed.append((number, tick, wanted))
            late += len(owed)
            self.assertTrue(same(debts(house, walks), owed))
        self.assertGreater(late, 50)

    def test_34_none_exactly_if_it_is_not_open_and_tick_plus_1_without_needs(self):
        for house, walks in ROWS:
            for number, walk in enumerate(walks):
                opens = open_steps(house, walks, number)
                for tick, is_open in enumerate(opens):
                    many = opened_by(house, walks, number, tick)
                    self.assertEqual(many is not None, is_open)
                    if walk[tick] != walk[tick + 1] and is_open:
                        self.assertGreaterEqual(many, tick + 1)
                        if (walk[tick], walk[tick + 1], []) in house[2]:
                            self.assertEqual(many, tick + 1)

    def test_34_without_time_doors_there_are_never_any(self):
        for house, walks in ROWS:
            self.assertEqual(debts(without_time_doors(house), walks), [])

    def test_34_edges(self):
        self.assertEqual([debts(FAR, []), debts(SHUT, [[0, 1]]), opened_by(SHUT, [[0, 1]], 0, 0)], [[], [], None])
        self.assertEqual([opened_by(ALONE, [[0, 0]], 0, 0), opened_by(FAR, [[0, 1, 2]], 0, 0)], [0, 1])
        self.assertEqual([opened_by(FAR, [[0, 1, 2]], 0, 1), debts(FAR, [[0, 1, 2]])], [3, [(0, 1, 3)]])

    def test_34_number_and_tick_are_refused_for_themselves(self):
        for walks, number, tick, told in (
                ([[0, 1]], 1, 0, 1), ([[0, 1]], 0, 1, 1), ([[0, 1]], 0, -1, -1), ([[0]], 0, 0, 0),
                ([[0, 1], [0, 0, 1]], 0, 1, 1), ([[0, 1]], 0, False, False), ([], 0, 0, 0)):
            with self.assertRaises(InvalidNumber) as caught:
                opened_by(BACK, walks, number, tick)
            self.assertIs(caught.exception.value, told)
        self.assertEqual(opened_by(BACK, [[0, 1], [0, 0, 1]], 1, 1), 3)


class PutOff(unittest.TestCase):

    def test_35_each_hand_stays_longer_at_its_first_place(self):
        self.assertEqual(put_off([[0, 1], [2], [5, 5]], 2), [[0, 0, 0, 1], [2, 2, 2], [5, 5, 5, 5]])
        self.assertEqual([put_off([], 3), put_off([[7, 8]], 0), put_off([[10 ** 29]], 1)],
                         [[], [[7, 8]], [[10 ** 29, 10 ** 29]]])
        self.assertEqual(put_off([[1]], 30), [[1] * 31])

    def test_35_playable_walks_stay_so(self):
        playable = 0
        for house, walks in ROWS:
            if plainly_playable(house, walks):
                playable += 1
                for ticks in (1, 2, 4):
                    self.assertIsNone(first_shut(house, put_off(walks, ticks)))
                self.assertIsNone(first_shut(house, [walk + walk[-1:] * (at + 1) for at, walk in enumerate(walks)]))
        self.assertGreater(playable, 100)

    def test_35_told_walks_are_new_ones(self):
        walks = [[0, 1], [2]]
        told = put_off(walks, 0)
        told[0].append(3)
        told.append([4])
        self.assertEqual(walks, [[0, 1], [2]])

    def test_35_walks_are_refused_ahead_of_ticks(self):
        for walks, ticks, error, told in (([[]], -1, InvalidWalks, [[]]), ([[0]], -1, InvalidNumber, -1),
                                          ([[0], [True]], 0, InvalidWalks, [[0], [True]])):
            with self.assertRaises(error) as caught:
                put_off(walks, ticks)
            self.assertEqual(caught.exception.value, told)


class Stays(unittest.TestCase):

    def drawn_stays(self, draw, house, lengths):
        place = draw.randrange(len(house[1]))
        stays = [(place, draw.choice(lengths))]
        for _ in range(draw.randint(0, 4)):
            goals = [goal for goal in goals_of(house, place) if goal != place]
            if goals:
                place = draw.choice(goals)
                stays.append((place, draw.choice(lengths)))
        return stays

    def test_35_are_stays(self):
        for value in ([(0, 1)], [(0, 1), (1, 1)], [(0, 10 ** 30 - 1), (1, 5), (2, 9), (1, 1)]):
            self.assertIs(are_stays(FAR, value), True)
        for value in ([], [(0, 0)], [(0, 1), (0, 1)], [(0, 1), (2, 1)], [(0, 1), (1, 0)], [(3, 1)], [[0, 1]], ((0, 1),),
                      [(0, True)], [(True, 1)], [(0, 1, 1)], None, [0], [1, 0]):
            self.assertIs(are_stays(FAR, value), False, value)

    def test_35_far_steps_are_those_of_the_walk_that_stands_so_often(self):
        draw = random.Random(35)
        unlike = set()
        for house in some_houses(35, 300):
            stays = self.drawn_stays(draw, house, (1, 1, 2, 3, 7))
            walk = [place for place, many in stays for _ in range(many)]
            opens = plain_opens(house, plain_hands_light(house, [walk]), walk)
            ends = [sum(many for _, many in stays[:at + 1]) - 1 for at in range(len(stays) - 1)]
            told = far_steps(house, stays)
            self.assertTrue(same(told, [opens[tick] for tick in ends]), (house, stays))
            unlike.update(told)
        self.assertEqual(unlike, {True, False})

    def test_35_stays_of_30_figures(self):
        draw = random.Random(351)
        for house in some_houses(351, 120):
            stays = self.drawn_stays(draw, house, (10 ** 30 - 1, 10 ** 29, 10 ** 29 + 3, 1, 2))
            runs = [(house[1][place], many) for place, many in stays]
            tick, wanted = -1, []
            for (place, many), (goal, _) in zip(stays, stays[1:]):
                tick += many
                wanted.append(can_go(house, far_light(house[0], runs, tick), place, goal))
            self.assertTrue(same(far_steps(house, stays), wanted))

    def test_35_edges(self):
        self.assertEqual([far_steps(ALONE, [(0, 10 ** 30 - 1)]), far_steps(SHUT, [(0, 10 ** 29), (1, 1)])], [[], [False]])
        with self.assertRaises(InvalidWalk) as caught:
            far_steps(SHUT, [])
        self.assertEqual(caught.exception.value, [])


if __name__ == "__main__":
    unittest.main()
