"""[71] to [76]: what is seen of founded histories, by going through all of them and all ways to look."""

import functools
import itertools
import random
import unittest

from tests.helpers import odd_values, plain_light, same, small_levels, some_presses
from tests.plain_darks import (CHEATED, EITHER, STOPPING, TURNED, TURNS, cheating_levels, layered_levels, plain_founded,
                               wavering_levels)
from timedoors.errors import InvalidHistory, InvalidLevel, InvalidNumber, InvalidPresses, InvalidRoom, TooMany
from timedoors.founded import all_founded, how_many_founded, is_founded
from timedoors.layers import with_darks
from timedoors.seen import (agreeing_with, agrees, best_looks, clash, crossed, fewest_looks, how_many_agree,
                            is_needed_look, looks_needed, open_lights, sure_lights, tells_apart, worth_looking)

# One of three rooms is lit at a tick, and one of two more.
SIX = (5, [([], [1, 2], 0, 0), ([], [0, 2], 1, 0), ([], [0, 1], 2, 0), ([], [3], 4, 0), ([], [4], 3, 0)])


def all_looks(level, presses):
    return list(itertools.product(range(len(presses)), range(level[0])))


def is_lit(history, look):
    return look[1] in history[look[0]]


def agreeing_of(histories, seen):
    return [history for history in histories if all(is_lit(history, sight[:2]) == sight[2] for sight in seen)]


def some_seen(draw, level, presses, histories):
    """Sights that some history has, of which some are turned about now and then."""
    looks = sorted(draw.sample(all_looks(level, presses), draw.randint(0, min(4, len(all_looks(level, presses))))))
    one = draw.choice(histories) if histories else [[] for _ in presses]
    turned = draw.random() < 0.4
    return [(*look, is_lit(one, look) != (turned and draw.random() < 0.5)) for look in looks]


def drawn_rows(seed, levels):
    draw = random.Random(seed)
    rows = []
    for level in levels:
        presses = some_presses(draw, level[0], draw.randint(0, {1: 6, 2: 4, 3: 2}[level[0]]))
        histories = plain_founded(level, presses)
        rows.append((level, presses, histories, some_seen(draw, level, presses, histories)))
    return rows


LEVELS = wavering_levels(71, 260, 3, 5) + wavering_levels(711, 120, 2, 4) + cheating_levels(712, 40, 3, 5) + [
    CHEATED, EITHER, EITHER, EITHER, TURNED, TURNS, TURNS]
LEVELS += [(3, SIX[1][:3] + more) for more in ([], [], [([0], [1], 2, 1)], [([1], [], 0, -1)], [([2], [0], 2, -1)])] * 3
ROWS = drawn_rows(713, LEVELS)


class Agreeing(unittest.TestCase):

    def test_71_those_that_agree(self):
        numbers = {}
        for level, presses, histories, seen in ROWS:
            wanted = agreeing_of(histories, seen)
            self.assertTrue(same(agreeing_with(level, presses, seen), wanted), (level, presses, seen))
            self.assertTrue(same(how_many_agree(level, presses, seen), len(wanted)))
            for history in histories + [[[] for _ in presses], [[0] for _ in presses]]:
                self.assertIs(agrees(level, presses, seen, history), history in wanted)
            numbers[len(wanted)] = numbers.get(len(wanted), 0) + 1
        self.assertTrue(numbers[0] > 20 and numbers[1] > 50 and numbers[2] > 30 and len(numbers) > 5, numbers)

    def test_71_no_sights_and_no_ticks(self):
        for level, presses, histories, _ in ROWS:
            self.assertEqual(agreeing_with(level, presses, []), histories)
        self.assertEqual([agreeing_with(EITHER, [], []), agrees(EITHER, [], [], []), agrees(EITHER, [], [], [[]])],
                         [[[]], True, False])

    def test_71_no_sight_makes_them_more_and_each_parts_them_in_two(self):
        for level, presses, histories, seen in ROWS:
            before = agreeing_with(level, presses, seen)
            taken = [sight[:2] for sight in seen]
            for look in all_looks(level, presses):
                if look not in taken:
                    both = [agreeing_with(level, presses, sorted(seen + [(*look, lit)])) for lit in (True, False)]
                    self.assertEqual(sorted(both[0] + both[1]), before)
                    self.assertTrue(all(history not in both[1] for history in both[0]))

    def test_71_any_value_is_judged(self):
        for value in odd_values() + [[[0]], [[0], [0], [0]], [[0], (0,)], [[0], [0, 0]], [[0], [2]], [[True], [0]]]:
            self.assertIs(agrees(EITHER, [[], []], [(0, 0, True)], value), False)
        self.assertIs(agrees(EITHER, [[], []], [(0, 0, True)], [[0], [0]]), True)

    def test_71_sights_that_are_refused(self):
        calls = [lambda seen: agrees(EITHER, [[], []], seen, None)]
        for function in (how_many_agree, agreeing_with, sure_lights, open_lights, worth_looking, best_looks,
                         looks_needed, clash):
            calls.append(functools.partial(function, EITHER, [[], []]))
        wrong = [
            None, 0, "", (), {}, ((0, 0, True),), [None], [()], [[]], [(0, 0)], [[0, 0, True]], [(0, 0, True, 0)],
            [(0, 0, 1)], [(0, 0, 0)], [(0, 0, None)], [(0, 0, "")], [(2, 0, True)], [(0, 2, True)], [(-1, 0, True)],
            [(0, -1, True)], [(True, 0, True)], [(0, False, True)], [("0", 0, True)], [(0, None, True)],
            [(0, 0, True), (0, 0, True)], [(0, 0, False), (0, 0, True)], [(0, 1, True), (0, 0, True)],
            [(1, 0, True), (0, 1, True)], [(0, 0, True), None], [(10 ** 29, 0, True)]]
        for call in calls:
            for seen in wrong:
                with self.assertRaises(InvalidHistory) as caught:
                    call(seen)
                self.assertIs(caught.exception.value, seen)


class Lights(unittest.TestCase):

    def test_72_lit_in_each_and_lit_in_some(self):
        for level, presses, histories, seen in ROWS:
            told = agreeing_of(histories, seen)
            rooms = range(level[0])
            each = [[room for room in rooms if all(room in history[tick] for history in told)]
                    for tick in range(len(presses))]
            some = [[room for room in rooms if any(room in history[tick] for history in told)]
                    for tick in range(len(presses))]
            self.assertTrue(same(sure_lights(level, presses, seen), each))
            self.assertTrue(same(open_lights(level, presses, seen), some))

    def test_72_if_none_agrees(self):
        self.assertEqual(sure_lights(EITHER, [[], []], [(0, 0, True), (0, 1, True)]), [[0, 1], [0, 1]])
        self.assertEqual(open_lights(EITHER, [[], []], [(0, 0, True), (0, 1, True)]), [[], []])
        self.assertEqual([sure_lights(CHEATED, [[]], []), open_lights(CHEATED, [[]], [])], [[[0]], [[]]])

    def test_72_no_news_exactly_if_lit_in_both_or_in_neither(self):
        for level, presses, _, seen in ROWS:
            many = how_many_agree(level, presses, seen)
            if many > 0:
                sure, some = sure_lights(level, presses, seen), open_lights(level, presses, seen)
                taken = [sight[:2] for sight in seen]
                for look in all_looks(level, presses):
                    for lit in (True, False):
                        if look not in taken:
                            left = how_many_agree(level, presses, sorted(seen + [(*look, lit)]))
                            self.assertEqual(left == many, is_lit(sure if lit else some, look) == lit)

    def test_72_without_darks_both_are_the_light(self):
        draw = random.Random(72)
        for level in small_levels()[::20]:
            presses = some_presses(draw, level[0], 3)
            lit = plain_light(level, presses)
            for look in all_looks(level, presses):
                seen = [(*look, is_lit(lit, look))]
                self.assertEqual([sure_lights(with_darks(level), presses, seen), open_lights(with_darks(level), presses, seen)],
                                 [lit, lit])
                self.assertEqual(how_many_agree(with_darks(level), presses, [(*look, not is_lit(lit, look))]), 0)


class Looking(unittest.TestCase):

    def test_73_worth_looking_and_best_looks(self):
        for level, presses, histories, seen in ROWS:
            told = agreeing_of(histories, seen)
            lit = {look: sum(is_lit(history, look) for history in told) for look in all_looks(level, presses)}
            worth = [look for look in all_looks(level, presses) if 0 < lit[look] < len(told)]
            self.assertTrue(same(worth_looking(level, presses, seen), worth))
            self.assertEqual(worth == [], len(told) <= 1)
            left = {look: max(lit[look], len(told) - lit[look]) for look in worth}
            wanted = [look for look in worth if left[look] == min(left.values())]
            self.assertTrue(same(best_looks(level, presses, seen), wanted))

    def plainly_needed(self, told, looks):
        """Going through all looks, one behind another, whatever is seen."""
        if len(told) <= 1:
            return 0
        needed = []
        for look in looks:
            lit = [history for history in told if is_lit(history, look)]
            dark = [history for history in told if not is_lit(history, look)]
            if lit and dark:
                needed.append(1 + max(self.plainly_needed(lit, looks), self.plainly_needed(dark, looks)))
        return min(needed)

    def test_73_looks_needed_by_going_through_all_ways_to_look(self):
        numbers = {}
        for level, presses, histories, seen in ROWS:
            told = agreeing_of(histories, seen)
            if len(told) <= 12:
                wanted = self.plainly_needed(told, all_looks(level, presses)) if len(told) <= 6 else None
                many = looks_needed(level, presses, seen)
                if wanted is not None:
                    self.assertTrue(same(many, wanted), (level, presses, seen))
                self.assertTrue(2 ** many >= len(told) and (not told or many <= len(told) - 1))
                numbers[many] = numbers.get(many, 0) + 1
        self.assertTrue(numbers[0] > 50 and numbers[1] > 30 and numbers[2] > 10 and numbers[3] > 0, numbers)

    def test_73_as_many_looks_as_histories_but_one(self):
        # Just one of the rooms is lit, and each look tells whether it is this one.
        for rooms in range(2, 8):
            doors = [([], [other for other in range(rooms) if other != room], room, 0) for room in range(rooms)]
            self.assertEqual(looks_needed((rooms, doors), [[]], []), rooms - 1)
            self.assertEqual(fewest_looks((rooms, doors), [[]]), [(0, room) for room in range(rooms - 1)])

    def test_73_more_than_12_that_agree(self):
        self.assertEqual(how_many_founded(SIX, [[], [0]]), 12)
        self.assertEqual(looks_needed(SIX, [[], [0]], []), 4)
        with self.assertRaises(TooMany) as caught:
            looks_needed(SIX, [[], []], [])
        self.assertEqual(caught.exception.value, 36)
        self.assertEqual(looks_needed(SIX, [[], []], [(0, 0, True), (1, 4, False)]), 3)
        with self.assertRaises(TooMany) as caught:
            looks_needed(SIX, [[], []], [(0, 0, False)])
        self.assertEqual(caught.exception.value, 24)


class Apart(unittest.TestCase):

    def test_74_tells_apart(self):
        draw = random.Random(74)
        told = {True: 0, False: 0}
        for level, presses, histories, _ in ROWS:
            for _ in range(3):
                every = all_looks(level, presses)
                looks = sorted(draw.sample(every, draw.randint(0, len(every))))
                wanted = all(any(is_lit(one, look) != is_lit(other, look) for look in looks)
                             for one, other in itertools.combinations(histories, 2))
                self.assertIs(tells_apart(level, presses, looks), wanted)
                told[wanted] += 1
        self.assertTrue(told[True] > 100 and told[False] > 100, told)

    def test_74_the_first_of_the_shortest_lists_of_looks(self):
        sizes = {}
        for level, presses, histories, _ in ROWS:
            if len(histories) <= 12:
                lots = (list(lot) for many in range(6) for lot in itertools.combinations(all_looks(level, presses), many))
                wanted = next(lot for lot in lots if tells_apart(level, presses, lot))
                told = fewest_looks(level, presses)
                self.assertTrue(same(told, wanted), (level, presses))
                self.assertGreaterEqual(len(told), looks_needed(level, presses, []))
                sizes[len(told)] = sizes.get(len(told), 0) + 1
        self.assertTrue(sizes[0] > 50 and sizes[1] > 50 and sizes[2] > 20 and len(sizes) > 3, sizes)

    def test_74_needed_looks(self):
        draw = random.Random(741)
        found = {True: 0, False: 0}
        for level, presses, histories, _ in ROWS:
            every = all_looks(level, presses)
            looks = sorted(draw.sample(every, draw.randint(0, min(3, len(every)))))
            for look in looks:
                wanted = any([other for other in looks if is_lit(one, other) != is_lit(two, other)] == [look]
                             for one, two in itertools.combinations(histories, 2))
                self.assertIs(is_needed_look(level, presses, looks, *look), wanted)
                found[wanted] += 1
                if tells_apart(level, presses, looks):
                    less = [other for other in looks if other != look]
                    self.assertIs(tells_apart(level, presses, less), not wanted)
        self.assertTrue(found[True] > 40 and found[False] > 100, found)

    def test_74_more_than_12_histories(self):
        self.assertEqual(len(fewest_looks(SIX, [[], [0]])), 4)
        with self.assertRaises(TooMany) as caught:
            fewest_looks(SIX, [[], []])
        self.assertEqual(caught.exception.value, 36)
        with self.assertRaises(TooMany) as caught:
            fewest_looks(EITHER, [[]] * 4)
        self.assertEqual(caught.exception.value, 16)

    def test_74_looks_that_are_refused(self):
        wrong = [None, 0, "", (), {}, ((0, 0),), [None], [()], [[]], [(0,)], [[0, 0]], [(0, 0, True)], [(2, 0)], [(0, 2)],
                 [(-1, 0)], [(0, -1)], [(True, 0)], [(0, False)], [("0", 0)], [(0, None)], [(0, 0), (0, 0)],
                 [(0, 1), (0, 0)], [(1, 0), (0, 1)], [(0, 0), None]]
        for looks in wrong:
            for call in (lambda: tells_apart(EITHER, [[], []], looks),
                         lambda: is_needed_look(EITHER, [[], []], looks, None, None)):
                with self.assertRaises(InvalidHistory) as caught:
                    call()
                self.assertIs(caught.exception.value, looks)

    def test_74_a_look_that_is_not_there(self):
        looks = [(0, 0), (1, 1)]
        for tick in (2, -1, True, False, None, "0", [0], 10 ** 29):
            with self.assertRaises(InvalidNumber) as caught:
                is_needed_look(EITHER, [[]] * 3, looks, tick, 9)
            self.assertIs(caught.exception.value, tick)
        for room in (1, 2, -1, False, None, "0", [0]):
            with self.assertRaises(InvalidRoom) as caught:
                is_needed_look(EITHER, [[]] * 3, looks, 0, room)
            self.assertIs(caught.exception.value, room)
        self.assertIs(is_needed_look(EITHER, [[]] * 3, looks, 1, 1), True)
        with self.assertRaises(InvalidNumber):
            is_needed_look(EITHER, [[]] * 3, [], 0, 0)


class TooManyHistories(unittest.TestCase):

    def test_71_more_than_300(self):
        ticks = [[]] * 9
        self.assertEqual(len(agreeing_with(EITHER, [[]] * 8, [])), 256)
        calls = [(agrees, [[], None]), (how_many_agree, [[]]), (agreeing_with, [[]]), (sure_lights, [[]]),
                 (open_lights, [[]]), (worth_looking, [[]]), (best_looks, [[]]), (looks_needed, [[]]), (tells_apart, [[]]),
                 (fewest_looks, []), (is_needed_look, [[(0, 0)], 0, 0]), (clash, [[]])]
        for function, more in calls:
            with self.assertRaises(TooMany) as caught:
                function(EITHER, ticks, *more)
            self.assertTrue(same(caught.exception.value, 301))
            if more:
                for at in range(len(more)):
                    if function is not agrees or at == 0:
                        wrong = more[:at] + [None] + more[at + 1:]
                        with self.assertRaises((InvalidHistory, InvalidNumber, InvalidRoom)):
                            function(EITHER, ticks, *wrong)
            with self.assertRaises(InvalidPresses):
                function(EITHER, [[2]] * 9, *more)
            with self.assertRaises(InvalidLevel):
                function((2, [([0], 1, 0)]), ticks, *more)
        one = [[0]] * 9
        self.assertEqual(crossed(EITHER, ticks, one, [[1]] * 9, 3), [[0]] * 4 + [[1]] * 5)

    def test_71_just_301_are_too_many(self):
        self.assertEqual(how_many_agree(STOPPING, [[]] * 299, []), 300)
        self.assertEqual(agreeing_with(STOPPING, [[]] * 299, [(298, 0, True)]), [[[0]] * 299])
        with self.assertRaises(TooMany) as caught:
            how_many_agree(STOPPING, [[]] * 300, [])
        self.assertEqual(caught.exception.value, 301)

    def test_73_just_13_are_too_many_for_looks(self):
        self.assertEqual(looks_needed(STOPPING, [[]] * 11, []), 4)
        self.assertEqual(fewest_looks(STOPPING, [[]] * 11), [(tick, 0) for tick in range(11)])
        for call in (lambda: looks_needed(STOPPING, [[]] * 12, []), lambda: fewest_looks(STOPPING, [[]] * 12)):
            with self.assertRaises(TooMany) as caught:
                call()
            self.assertEqual(caught.exception.value, 13)
        self.assertEqual(looks_needed(STOPPING, [[]] * 12, [(11, 0, False)]), 4)

    def test_71_just_300_are_looked_at(self):
        # One of three rooms is lit at a tick, one of five more, and one of two more: 30 ways, fewer where one is pressed.
        lots = [[0, 1, 2], [3, 4, 5, 6, 7], [8, 9]]
        level = (10, [([], [other for other in lot if other != room], room, 0) for lot in lots for room in lot])
        self.assertEqual(how_many_founded(level, [[], [0]]), 300)
        self.assertEqual(how_many_agree(level, [[], [0]], []), 300)
        self.assertEqual(len(agreeing_with(level, [[], [0]], [(0, 3, True)])), 60)
        with self.assertRaises(TooMany) as caught:
            how_many_agree(level, [[], [3, 8]] + [[3, 8]] * 2, [])
        self.assertEqual(caught.exception.value, 301)


class Clashes(unittest.TestCase):

    def test_75_the_first_of_the_shortest(self):
        sizes = {}
        draw = random.Random(75)
        for level, presses, histories, _ in ROWS:
            every = all_looks(level, presses)
            for _ in range(3):
                looks = sorted(draw.sample(every, draw.randint(0, min(5, len(every)))))
                seen = [(*look, draw.random() < 0.5) for look in looks]
                told = clash(level, presses, seen)
                lots = (list(lot) for many in range(len(seen) + 1) for lot in itertools.combinations(seen, many))
                wanted = next((lot for lot in lots if not agreeing_of(histories, lot)), None)
                self.assertTrue(same(told, wanted), (level, presses, seen))
                size = None if told is None else len(told)
                sizes[size] = sizes.get(size, 0) + 1
                for sight in told or []:
                    self.assertGreater(how_many_agree(level, presses, [other for other in told if other != sight]), 0)
        self.assertTrue(sizes[None] > 50 and sizes[1] > 100 and sizes[2] > 20 and sizes[3] > 0, sizes)

    def test_75_no_history_at_all(self):
        for seen in ([], [(0, 0, True)], [(0, 0, False)]):
            self.assertEqual(clash(CHEATED, [[]], seen), [])
        self.assertEqual(sorted(clash(SIX, [[]], [(0, room, False) for room in range(5)])),
                         [(0, 3, False), (0, 4, False)])
        self.assertEqual(clash(SIX, [[]], [(0, room, False) for room in range(4)]),
                         [(0, room, False) for room in range(3)])
        self.assertIsNone(clash(SIX, [], []))


class Crossed(unittest.TestCase):

    def test_76_what_is_crossed_is_founded(self):
        told = {True: 0, False: 0}
        for level, presses, histories, _ in ROWS:
            for one, other in list(itertools.product(histories, repeat=2))[:40]:
                for tick in range(len(presses)):
                    found = crossed(level, presses, one, other, tick)
                    wanted = one[:tick + 1] + other[tick + 1:]
                    if found is not None:
                        self.assertTrue(same(found, wanted))
                        self.assertIn(found, histories)
                        self.assertIsNotNone(crossed(level, presses, other, one, tick))
                    elif tick == len(presses) - 1 or one == other:
                        self.assertNotEqual(one, other)
                    told[found is not None] += 1
        self.assertTrue(told[True] > 200 and told[False] > 100, told)

    def test_76_by_states(self):
        """Two have one state if no presses behind, no guess and nothing that comes in tells them apart."""
        met = {True: 0, False: 0}
        for level, presses, histories, _ in [row for row in ROWS if row[0][0] <= 2 and len(row[1]) in (1, 2)]:
            if all(by != -1 for _, _, _, by in level[1]):
                continue
            for one, other in itertools.combinations(histories, 2):
                for tick in range(len(presses)):
                    found = crossed(level, presses, one, other, tick)
                    if found is not None:
                        for more in ([[]], [[0]], [[], [0]]):
                            longer = presses[:tick + 1] + more
                            for behind in itertools.product([[], [0], [1], [0, 1]][:2 ** level[0]], repeat=len(more)):
                                self.assertEqual(*[is_founded(level, longer, history[:tick + 1] + list(behind))
                                                   for history in (one, other)])
                    met[found is not None] += 1
        self.assertTrue(met[True] > 5 and met[False] > 20, met)

    def test_76_without_time_doors_alike_at_the_tick_is_enough(self):
        many = 0
        for level, presses, histories, _ in ROWS:
            forward = (level[0], [door for door in level[1] if door[3] != -1])
            histories = all_founded(forward, presses)
            for one, other in itertools.permutations(histories[:8], 2):
                for tick in range(len(presses)):
                    if one[tick] == other[tick]:
                        self.assertIsNotNone(crossed(forward, presses, one, other, tick))
                        many += 1
        self.assertGreater(many, 100)

    def test_76_alike_is_not_enough_with_time_doors(self):
        first, second = [[1], [0, 1], [0, 1]], [[2], [0, 1], [0, 2]]
        for one, other in ((first, second), (second, first)):
            self.assertEqual(one[1], other[1])
            self.assertIsNone(crossed(TURNS, [[], [], []], one, other, 1))
        # Here not even what would come of it is founded.
        self.assertIs(is_founded(TURNS, [[], [], []], second[:2] + first[2:]), False)

    def test_76_wrong_values_in_order(self):
        good = [[0], [1]]
        for values, error, told in (
                ((None, None, None, None, None), InvalidLevel, None), ((EITHER, [[2]], None, None, None), InvalidPresses, [[2]]),
                ((EITHER, [[], []], [[0]], None, None), InvalidHistory, [[0]]),
                ((EITHER, [[], []], [[0], []], None, None), InvalidHistory, [[0], []]),
                ((EITHER, [[], []], good, [[0], [0, 1]], None), InvalidHistory, [[0], [0, 1]]),
                ((EITHER, [[], []], good, ([0], [1]), None), InvalidHistory, ([0], [1])),
                ((EITHER, [[], []], good, good, 2), InvalidNumber, 2), ((EITHER, [[], []], good, good, True), InvalidNumber, True),
                ((EITHER, [], [], [], 0), InvalidNumber, 0), ((EITHER, [[], []], good, good, -1), InvalidNumber, -1)):
            with self.assertRaises(error) as caught:
                crossed(*values)
            self.assertTrue(same(caught.exception.value, told))

    def test_76_what_is_told_is_new(self):
        one = [[0], [1]]
        told = crossed(EITHER, [[], []], one, one, 0)
        told[0].append(9)
        told[1].append(9)
        self.assertEqual(one, [[0], [1]])


class OneHistory(unittest.TestCase):

    def test_73_by_layers_there_is_nothing_to_look_for(self):
        draw = random.Random(731)
        for level in layered_levels(732, 40, 3, 6):
            presses = some_presses(draw, level[0], draw.randint(0, 5))
            self.assertEqual([worth_looking(level, presses, []), best_looks(level, presses, []), fewest_looks(level, presses),
                              looks_needed(level, presses, []), tells_apart(level, presses, [])], [[], [], [], 0, True])


if __name__ == "__main__":
    unittest.main()
