"""[11] to [14]: trails, closed histories, givers."""

import itertools
import random
import unittest

from tests.helpers import BACK, all_presses, odd_values, plain_light, plainly_keeps, presses_up_to, same, small_levels
from tests.helpers import some_levels, some_presses
from timedoors.light import how_many_keep, light, lit_rounds
from timedoors.trails import first_trail, givers, how_many_without, is_dark_paper, is_trail, sole_light, trail_depth


def places(level, presses):
    return list(itertools.product(range(len(presses)), range(level[0])))


def all_whys(level):
    return [("press",)] + [("door", number) for number in range(len(level[1]))]


def depth_of_last(level, trail):
    """The depth of the last line, by the words of [12]."""
    depths = {}
    for tick, room, why in trail:
        depth = 0
        if why != ("press",):
            needs, _, shift = level[1][why[1]]
            depth = 1 + max([depths[(tick - shift, need)] for need in needs], default=0)
        depths[(tick, room)] = min(depth, depths.get((tick, room), depth))
    return depths[trail[-1][:2]]


def some_rows(seed, many):
    draw = random.Random(seed)
    return [(level, some_presses(draw, level[0], draw.randint(1, 7))) for level in some_levels(seed, many, 5, 9)]


class Trails(unittest.TestCase):

    def test_11_a_room_is_lit_exactly_if_it_has_a_trail(self):
        for level in small_levels()[::3]:
            for presses in presses_up_to(level[0], 2):
                lines = [(tick, room, why) for tick, room in places(level, presses) for why in all_whys(level)]
                trail, again = [], True
                while again:
                    again = False
                    for line in lines:
                        if line not in trail and is_trail(level, presses, line[0], line[1], trail + [line]):
                            trail.append(line)
                            again = True
                have = {line[:2] for line in trail}
                lit = {(tick, room) for tick, lights in enumerate(light(level, presses)) for room in lights}
                self.assertEqual(have, lit)

    def test_11_lines_that_do_no_harm(self):
        trail = [(2, 0, ("press",)), (2, 1, ("door", 0)), (1, 2, ("door", 1))]
        presses = [[], [], [0]]
        self.assertIs(is_trail(BACK, presses, 1, 2, trail), True)
        self.assertIs(is_trail(BACK, presses, 1, 2, trail + trail), True)
        self.assertIs(is_trail(BACK, presses, 1, 2, [trail[0], *trail]), True)
        self.assertIs(is_trail(BACK, presses, 1, 2, trail[:2] + [(0, 2, ("door", 2))] + trail[2:]), False)
        self.assertIs(is_trail(BACK, presses, 1, 2, trail[:2] + trail[2:] + [(0, 2, ("door", 2)), trail[2]]), True)
        self.assertIs(is_trail(BACK, presses, 2, 0, trail[:1]), True)
        self.assertIs(is_trail(BACK, presses, 2, 1, trail), False)
        self.assertIs(is_trail(BACK, presses, 1, 0, trail), False)
        self.assertIs(is_trail(BACK, presses, 0, 2, trail), False)
        self.assertIs(is_trail(BACK, presses, 2, 2, trail), False)

    def test_11_what_is_no_trail(self):
        presses = [[], [], [0]]
        good = [(2, 0, ("press",)), (2, 1, ("door", 0))]
        bad = [
            [], good[:1], good[::-1], good[1:], tuple(good), [list(line) for line in good], [good[0], (2, 1, ("door",))],
            [good[0], (2, 1, ["door", 0])], [good[0], (2, 1, ("door", 1))], [good[0], (2, 1, ("door", -1))],
            [good[0], (2, 1, ("door", 3))], [good[0], (2, 1, ("door", False))], [good[0], (2, 1, ("door", 0, 0))],
            [good[0], (2, 1, ("press",))], [good[0], (2, 1, ("press", 0))], [good[0], (2, 1, "press")],
            [good[0], (2, 1, None)], [good[0], (2, 1, ())], [good[0], (2, 1)], [good[0], (2, 1, ("door", 0), 0)],
            [good[0], (2, True, ("door", 0))], [(2, False, ("press",)), good[1]], [(3, 0, ("press",)), good[1]],
            [(-1, 0, ("press",)), good[1]], [(2, 0, ["press"]), good[1]], [(2, 3, ("press",)), good[1]],
            [(1, 0, ("press",)), (1, 1, ("door", 0))] + good[1:], [None, *good], [(2, 0, ("door", 0)), good[1]],
            [(2, -1, ("press",)), *good], [(2, 0, ("Press",)), good[1]], [(2, 0, (None,)), good[1]],
            [good[0], (2, 1, ("door", None))], [good[0], (2, 1, ("gate", 0))], [good[0], (2, 1, ("door", [0]))],
        ]
        self.assertIs(is_trail(BACK, presses, 2, 1, good), True)
        for value in bad + odd_values():
            with self.subTest(value=value):
                self.assertIs(is_trail(BACK, presses, 2, 1, value), False)

    def test_11_a_door_without_needs_leads_from_a_tick_that_there_is(self):
        for shift, can in [(-1, [True, True, False]), (0, [True, True, True]), (1, [False, True, True])]:
            for tick in range(3):
                line = [(tick, 0, ("door", 0))]
                self.assertIs(is_trail((1, [([], 0, shift)]), [[]] * 3, tick, 0, line), can[tick])

    def test_12_the_first_trail(self):
        rows = [(level, presses) for level in small_levels()[::2] for presses in all_presses(level[0], 2)]
        for level, presses in rows + some_rows(12, 150):
            lit, rounds = light(level, presses), lit_rounds(level, presses)
            for tick, room in places(level, presses):
                told = first_trail(level, presses, tick, room)
                self.assertEqual(told is None, room not in lit[tick])
                if told is not None:
                    self.look_at(level, presses, rounds, (tick, room), told)

    def look_at(self, level, presses, rounds, place, told):
        tick, room = place
        self.assertIs(is_trail(level, presses, tick, room, told), True)
        order = [(rounds[when][where], when, where) for when, where, _ in told]
        self.assertEqual(order, sorted(set(order)))
        for at in range(len(told) - 1):
            self.assertIs(is_trail(level, presses, tick, room, told[:at] + told[at + 1:]), False)
        for when, where, why in told:
            if where in presses[when]:
                self.assertEqual(why, ("press",))
            else:
                doors = [number for number, (needs, given, shift) in enumerate(level[1])
                         if given == where and 0 <= when - shift < len(presses)
                         and all(self.is_ahead(rounds[when - shift][need], rounds[when][where]) for need in needs)]
                self.assertEqual(why, ("door", doors[0]))
        self.assertEqual(depth_of_last(level, told), rounds[tick][room])

    def is_ahead(self, one, other):
        return one is not None and one < other

    def test_12_equal_doors_and_unlike_ways(self):
        level = (3, [([0], 2, 0), ([1], 2, 0), ([1], 2, 0), ([0], 1, 0)])
        self.assertEqual(first_trail(level, [[1]], 0, 2), [(0, 1, ("press",)), (0, 2, ("door", 1))])
        self.assertEqual(first_trail(level, [[0]], 0, 2), [(0, 0, ("press",)), (0, 2, ("door", 0))])
        self.assertEqual(first_trail(level, [[2]], 0, 2), [(0, 2, ("press",))])
        self.assertIsNone(first_trail(level, [[]], 0, 2))
        late = (3, [([2], 1, 0), ([0], 2, 0), ([0], 1, 0)])
        self.assertEqual(first_trail(late, [[0]], 0, 1), [(0, 0, ("press",)), (0, 1, ("door", 2))])
        fork = (4, [([0], 1, 0), ([0], 2, 0), ([1, 2], 3, 0)])
        self.assertEqual(first_trail(fork, [[0]], 0, 3), [
            (0, 0, ("press",)), (0, 1, ("door", 0)), (0, 2, ("door", 1)), (0, 3, ("door", 2))])

    def test_12_the_depth_is_the_number_of_the_round(self):
        for level, presses in some_rows(120, 200):
            best = {(tick, room): 0 for tick, lights in enumerate(presses) for room in lights}
            for _ in range(level[0] * len(presses) + 1):
                for tick, (needs, room, shift) in itertools.product(range(len(presses)), level[1]):
                    ways = [best.get((tick, need)) for need in needs]
                    if 0 <= tick + shift < len(presses) and None not in ways:
                        depth = 1 + max(ways, default=0)
                        best[(tick + shift, room)] = min(depth, best.get((tick + shift, room), depth))
            rounds = lit_rounds(level, presses)
            for tick, room in places(level, presses):
                depth = trail_depth(level, presses, tick, room)
                self.assertTrue(same(depth, best.get((tick, room))))
                self.assertEqual(depth, rounds[tick][room])


class ClosedHistories(unittest.TestCase):

    def test_13_closed_histories_with_and_without_are_all(self):
        for level in small_levels()[::4]:
            for presses in all_presses(level[0], 2)[::2]:
                keeping = [told for told in all_presses(level[0], 2) if plainly_keeps(level, presses, told)]
                lit = light(level, presses)
                for tick, room in places(level, presses):
                    without = [told for told in keeping if room not in told[tick]]
                    self.assertTrue(same(how_many_without(level, presses, tick, room), len(without)))
                    self.assertEqual(how_many_keep(level, presses),
                                     len(without) + len([told for told in keeping if room in told[tick]]))
                    self.assertEqual(len(without) == 0, room in lit[tick])
                    self.assertIs(is_dark_paper(level, presses, tick, room, lit), room not in lit[tick])
                    for told in all_presses(level[0], 2):
                        self.assertIs(is_dark_paper(level, presses, tick, room, told), told in without)

    def test_13_edges(self):
        self.assertIs(is_dark_paper(BACK, [[], [0]], 0, 0, [[2], [0, 1]]), True)
        for value in odd_values() + [([2], [0, 1]), [[2], [0, True]], [[2]], [[2], [0, 1], []], [[0, 1, 2], [0, 1]]]:
            self.assertIs(is_dark_paper(BACK, [[], [0]], 0, 0, value), False)
        self.assertEqual(how_many_without((6, []), [[]] * 30, 29, 5), 64 ** 29 * 32)
        self.assertEqual(how_many_without((6, []), [[5]] * 30, 0, 5), 0)


class Givers(unittest.TestCase):

    def test_14_givers_and_sole_light(self):
        for level, presses in some_rows(14, 300):
            lit, sole = plain_light(level, presses), []
            for tick, room in places(level, presses):
                told = [number for number, (needs, given, shift) in enumerate(level[1])
                        if given == room and 0 <= tick - shift < len(presses) and set(needs) <= set(lit[tick - shift])]
                self.assertTrue(same(givers(level, presses, tick, room), told))
                if len(told) == 1 and room not in presses[tick]:
                    sole.append((tick, room))
            self.assertTrue(same(sole_light(level, presses), sole))

    def test_14_edges(self):
        twice = (2, [([0], 1, 0), ([0], 1, 0), ([], 0, 1), ([1], 0, -1)])
        self.assertEqual([givers(twice, [[0]], 0, 1), givers(twice, [[0]], 0, 0)], [[0, 1], []])
        self.assertEqual([givers(twice, [[0], []], 0, 0), givers(twice, [[0], []], 1, 0)], [[3], [2]])
        self.assertEqual([sole_light(twice, [[0]]), sole_light(twice, [[], []])], [[], [(0, 0), (1, 0)]])
        self.assertEqual([sole_light(twice, []), sole_light((1, [([], 0, 0)]), [[0], []])], [[], [(1, 0)]])


if __name__ == "__main__":
    unittest.main()
