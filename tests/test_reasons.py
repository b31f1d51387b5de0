"""[43] to [47]: reasons and cuts, against all lots gone through one by one."""

import itertools
import random
import unittest

from tests.helpers import BACK, HALL, plain_light, same, small_levels, some_levels, some_presses
from timedoors import reasons as module
from timedoors.errors import InvalidNumber, InvalidPresses, InvalidRoom
from timedoors.reasons import (alone, crossing, cuts, fewest_cut, fewest_reason, how_many_light, idle_presses, is_added,
                               is_cut, is_reason, presses_in, reasons, sure_presses, together, with_only, without)

NEEDING_TWO = (3, [([0, 1], 2, 1), ([0], 1, -1)])


def lots_of(presses):
    every = [(tick, room) for tick, lights in enumerate(presses) for room in lights]
    return sorted(list(lot) for many in range(len(every) + 1) for lot in itertools.combinations(every, many))


def only(ticks, lot):
    return [sorted(room for tick, room in lot if tick == at) for at in range(ticks)]


def least(lots):
    return sorted(lot for lot in lots if not any(set(other) < set(lot) for other in lots))


def drawn_rows(seed, levels):
    draw = random.Random(seed)
    rows = []
    for level in levels:
        presses = some_presses(draw, level[0], draw.randint(1, 4))
        while sum(len(lights) for lights in presses) > 6:
            presses.pop()
        rows.append((level, presses))
    return rows


def pairs_of_needs(seed, many):
    """Levels whose doors mostly need two rooms, so that reasons have several presses."""
    draw = random.Random(seed)
    levels = []
    for _ in range(many):
        doors = [(sorted(draw.sample(range(4), draw.choice((1, 2, 2)))), draw.randrange(4), draw.choice((-1, 0, 1)))
                 for _ in range(draw.randint(2, 6))]
        levels.append((4, doors))
    return levels


ROWS = drawn_rows(43, small_levels()[::4] + some_levels(431, 60, 4, 7) + pairs_of_needs(432, 60))


class Told:
    """All that is told of a room at a tick, by the light of each lot."""

    def __init__(self, level, presses, tick, room):
        every = lots_of(presses)
        whole = max(every, key=len)
        lit = {repr(lot): room in plain_light(level, only(len(presses), lot))[tick] for lot in every}
        others = {repr(lot): repr([press for press in whole if press not in lot]) for lot in every}
        self.lighting = [lot for lot in every if lit[repr(lot)]]
        self.reasons = least(self.lighting)
        self.cuts = least([lot for lot in every if not lit[others[repr(lot)]]])
        self.lots = every
        self.whole = whole


def each_room(level, presses):
    return itertools.product(range(len(presses)), range(level[0]))


CASES = [(level, presses, tick, room, Told(level, presses, tick, room))
         for level, presses in ROWS for tick, room in each_room(level, presses)]


class Lots(unittest.TestCase):

    def test_43_all_presses_and_those_of_lots(self):
        for level, presses in ROWS:
            every = [(tick, room) for tick, lights in enumerate(presses) for room in lights]
            self.assertTrue(same(presses_in(level, presses), every))
            for lot in lots_of(presses):
                self.assertTrue(same(with_only(level, presses, lot), only(len(presses), lot)))
                others = [press for press in every if press not in lot]
                self.assertTrue(same(without(level, presses, lot), only(len(presses), others)))

    def test_43_edges(self):
        self.assertEqual([presses_in(HALL, []), presses_in(HALL, [[], []]), with_only(HALL, [], []), without(HALL, [], [])],
                         [[], [], [], []])
        self.assertEqual([with_only(HALL, [[0, 2], []], []), without(HALL, [[0, 2], []], [])], [[[], []], [[0, 2], []]])
        for function in (with_only, without):
            for lot in ([(0, 1)], [(2, 0)], [(0, 2), (0, 0)], [(0, 0), (0, 0)], ((0, 0),), [[0, 0]], [(False, 0)]):
                with self.assertRaises(InvalidPresses) as caught:
                    function(HALL, [[0, 2], []], lot)
                self.assertIs(caught.exception.value, lot)

    def test_43_more_presses_make_no_room_dark(self):
        for _, _, _, _, told in CASES:
            lit = [set(lot) for lot in told.lighting]
            for lot in told.lots:
                if any(less <= set(lot) for less in lit):
                    self.assertIn(lot, told.lighting)


class Reasons(unittest.TestCase):

    def test_44_all_least_lots_in_order(self):
        sizes = set()
        for level, presses, tick, room, told in CASES:
            self.assertTrue(same(reasons(level, presses, tick, room), told.reasons))
            self.assertTrue(same(cuts(level, presses, tick, room), told.cuts))
            sizes.update((len(told.reasons), len(lot)) for lot in told.reasons)
        self.assertTrue(any(many > 2 and size > 1 for many, size in sizes))

    def test_44_each_value_is_judged(self):
        for level, presses, tick, room, told in CASES[::3]:
            for lot in told.lots:
                self.assertIs(is_reason(level, presses, tick, room, lot), lot in told.reasons)
                self.assertIs(is_cut(level, presses, tick, room, lot), lot in told.cuts)

    def test_44_what_is_no_lot_is_neither(self):
        for value in (None, (), {}, "", 0, [None], [[]], [(0, 1)], [(9, 0)], [[0, 0]], [(0, 0), (0, 0)], [(1, 1), (0, 0)],
                      [(False, 0)], [(0, False)], ((0, 0),), [(0, 0, 0)], [(0, -1)]):
            for function in (is_reason, is_cut):
                self.assertIs(function(HALL, [[0], [1]], 0, 0, value), False)
                self.assertIs(function((1, []), [[0]], 0, 0, [(0, 0), value]), False)
        self.assertIs(is_reason(HALL, [[0], [1]], 0, 0, [(0, 0)]), True)

    def test_44_a_dark_room_and_a_room_lit_by_no_press(self):
        self.assertEqual([reasons(HALL, [[0], [0]], 1, 2), cuts(HALL, [[0], [0]], 1, 2)], [[], [[]]])
        self.assertEqual([reasons(HALL, [[1], [1]], 0, 1), cuts(HALL, [[1], [1]], 0, 1)], [[[]], []])
        self.assertEqual([is_cut(HALL, [[0], [0]], 1, 2, []), is_reason(HALL, [[0], [0]], 1, 2, [])], [True, False])
        self.assertEqual([is_cut(HALL, [[1], [1]], 0, 1, []), is_reason(HALL, [[1], [1]], 0, 1, [])], [False, True])
        self.assertEqual([reasons((1, []), [[]], 0, 0), cuts((1, []), [[]], 0, 0)], [[], [[]]])

    def test_44_presses_of_no_tick_have_none(self):
        for name in ("reasons", "cuts", "fewest_reason", "fewest_cut", "sure_presses", "idle_presses", "how_many_light"):
            with self.assertRaises(InvalidNumber):
                getattr(module, name)(HALL, [], 0, 0)


class Crossing(unittest.TestCase):

    def plainly(self, lots):
        items = sorted({press for lot in lots for press in lot})
        every = lots_of([[at] for at in range(len(items))])
        told = [[items[tick] for tick, _ in lot] for lot in every]
        return least([lot for lot in told if all(set(lot) & set(other) for other in lots)])

    def test_45_each_tells_the_other_one(self):
        for level, presses, tick, room, told in CASES:
            self.assertTrue(same(crossing(reasons(level, presses, tick, room)), told.cuts))
            self.assertTrue(same(crossing(cuts(level, presses, tick, room)), told.reasons))

    def test_45_all_least_lists_that_meet_each(self):
        draw = random.Random(45)
        for _ in range(300):
            items = [(draw.randrange(4), draw.randrange(4)) for _ in range(draw.randint(1, 7))]
            items = sorted(set(items))
            lots = [sorted(draw.sample(items, draw.randint(draw.choice((0, 1, 1, 1, 1)), len(items))))
                    for _ in range(draw.randint(0, 6))]
            self.assertTrue(same(crossing(lots), self.plainly(lots)), lots)

    def test_45_no_list_an_empty_one_equal_ones_and_a_lesser_one(self):
        one, other = (0, 0), (3, 10 ** 29)
        self.assertEqual([crossing([]), crossing([[]]), crossing([[one], []])], [[[]], [], []])
        self.assertEqual([crossing([[one, other]] * 3), crossing([[one, other], [other]])], [[[one], [other]], [[other]]])
        self.assertEqual(crossing([[other], [one]]), [[one, other]])
        self.assertEqual(crossing([[(0, 2), (0, 10)], [(0, 2)]]), [[(0, 2)]])

    def test_45_it_is_refused_with_the_whole_argument(self):
        for lots in ([[(0, 1), (0, 0)]], [[(0, 0)], [(True, 0)]], ([],), [()], None, [[(0, -1)]], [[[0, 0]]]):
            with self.assertRaises(InvalidPresses) as caught:
                crossing(lots)
            self.assertIs(caught.exception.value, lots)


class Sure(unittest.TestCase):

    def test_46_the_first_with_the_fewest(self):
        for level, presses, tick, room, told in CASES:
            wanted = [min(lots, key=lambda lot: (len(lot), lot), default=None) for lots in (told.reasons, told.cuts)]
            self.assertTrue(same([fewest_reason(level, presses, tick, room), fewest_cut(level, presses, tick, room)],
                                 wanted))

    def test_46_sure_and_idle_presses(self):
        unlike = set()
        for level, presses, tick, room, told in CASES:
            sure = [press for press in told.whole if told.reasons and all(press in lot for lot in told.reasons)]
            idle = [press for press in told.whole if not any(press in lot for lot in told.reasons)]
            self.assertTrue(same(sure_presses(level, presses, tick, room), sure))
            self.assertTrue(same(idle_presses(level, presses, tick, room), idle))
            self.assertEqual(sure, [press for press in told.whole if [press] in told.cuts])
            self.assertEqual(idle, [press for press in told.whole if not any(press in lot for lot in told.cuts)])
            unlike.add((bool(sure), bool(idle), bool(told.reasons)))
        self.assertEqual(len(unlike), 6)

    def test_46_idle_ones_may_be_left_away_at_once(self):
        for level, presses, tick, room, told in CASES:
            less = without(level, presses, idle_presses(level, presses, tick, room))
            self.assertEqual([reasons(level, less, tick, room), cuts(level, less, tick, room)], [told.reasons, told.cuts])

    def test_46_a_dark_room_and_one_lit_by_no_press(self):
        self.assertEqual([fewest_reason(HALL, [[0]], 0, 1), fewest_cut(HALL, [[0]], 0, 1)], [None, []])
        self.assertEqual([sure_presses(HALL, [[0]], 0, 1), idle_presses(HALL, [[0]], 0, 1)], [[], [(0, 0)]])
        self.assertEqual([fewest_reason(HALL, [[0], []], 0, 1), fewest_cut(HALL, [[0], []], 0, 1)], [[], None])
        self.assertEqual([sure_presses(HALL, [[0], []], 0, 1), idle_presses(HALL, [[0], []], 0, 1)], [[], [(0, 0)]])

    def test_46_without_doors_of_a_shift_no_press_on_that_side(self):
        for level, presses, tick, room, told in CASES:
            shifts = {shift for _, _, shift in level[1]}
            ticks = {at for lot in told.reasons + told.cuts for at, _ in lot}
            got = {at for lot in reasons(level, presses, tick, room) + cuts(level, presses, tick, room) for at, _ in lot}
            self.assertEqual(got, ticks)
            self.assertTrue(-1 in shifts or all(at <= tick for at in ticks))
            self.assertTrue(1 in shifts or all(at >= tick for at in ticks))

    def test_46_how_many_lots_light(self):
        for level, presses, tick, room, told in CASES:
            self.assertTrue(same(how_many_light(level, presses, tick, room), len(told.lighting)))
        self.assertEqual([how_many_light(HALL, [[0]], 0, 1), how_many_light(HALL, [[0], []], 0, 1)], [0, 2])
        self.assertEqual(how_many_light((1, []), [[]], 0, 0), 0)


class Alone(unittest.TestCase):

    def test_47_one_press_alone(self):
        for level in small_levels()[::5] + some_levels(47, 60, 4, 7):
            for ticks in (1, 2, 3):
                for tick, room in itertools.product(range(ticks), range(level[0])):
                    wanted = plain_light(level, only(ticks, [(tick, room)]))
                    self.assertTrue(same(alone(level, ticks, tick, room), wanted))
        self.assertEqual(alone((1, []), 30, 29, 0), [[]] * 29 + [[0]])

    def test_47_numbers_are_refused_in_order(self):
        for values, error, told in (
                ((HALL, 0, 5, 9), InvalidNumber, 0), ((HALL, 31, 5, 9), InvalidNumber, 31),
                ((HALL, True, 5, 9), InvalidNumber, True), ((HALL, 3, 3, 9), InvalidNumber, 3),
                ((HALL, 3, -1, 9), InvalidNumber, -1), ((HALL, 3, 2, 9), InvalidRoom, 9)):
            with self.assertRaises(error) as caught:
                alone(*values)
            self.assertIs(caught.exception.value, told)

    def test_47_what_takes_several_presses(self):
        unlike = set()
        for level, presses in ROWS:
            ticks = len(presses)
            lights = [plain_light(level, only(ticks, lot)) for lot in lots_of(presses) if len(lot) < 2]
            whole = plain_light(level, presses)
            wanted = [(tick, room) for tick in range(ticks) for room in whole[tick]
                      if not any(room in lit[tick] for lit in lights)]
            self.assertTrue(same(together(level, presses), wanted))
            self.assertIs(is_added(level, presses), wanted == [])
            unlike.add(wanted == [])
        self.assertEqual(unlike, {True, False})

    def test_47_doors_of_one_need_always_add(self):
        added = 0
        for level, presses in ROWS:
            if all(len(needs) < 2 for needs, _, _ in level[1]):
                added += 1
                self.assertIs(is_added(level, presses), True)
                for tick, room in each_room(level, presses):
                    self.assertTrue(all(len(lot) < 2 for lot in reasons(level, presses, tick, room)))
        self.assertGreater(added, 20)

    def test_47_edges(self):
        self.assertEqual([is_added(HALL, []), together(HALL, []), is_added(HALL, [[], []])], [True, [], True])
        self.assertEqual([is_added(NEEDING_TWO, [[1], [], []]), together(NEEDING_TWO, [[0, 1], []])], [True, [(1, 2)]])
        self.assertEqual(together(BACK, [[0], [1]]), [])


if __name__ == "__main__":
    unittest.main()
