"""[25] to [28]: endless presses, and how far a press reaches, against the light of many rounds."""

import itertools
import random
import unittest

from tests.helpers import (HALL, LOOP, all_presses, lefts_of, plain_light, plain_rest, plainly_keeps, presses_up_to,
                           rights_of, same, small_levels, some_levels, some_presses)
from timedoors.endless import added, changed, for_ever, for_ever_at, keeps_for_ever, reach_back, stays_from
from timedoors.errors import InvalidNumber
from timedoors.levels import plain_endless
from timedoors.rests import settled
from timedoors.trails import first_trail, is_trail

TURNING = (3, [([0], 1, 1), ([1], 2, 1), ([2], 0, 1)])


def endless_of(rooms):
    """All endless presses with at most one tick ahead and at most two in the round."""
    turns = all_presses(rooms, 1) + all_presses(rooms, 2)
    return [(presses, turn) for presses in presses_up_to(rooms, 1) for turn in turns]


def unrolled(endless, ticks):
    presses, turn = endless
    return (presses + turn * ticks)[:ticks]


def plain_rounds(level, endless, rounds):
    presses, turn = endless
    return plain_light(level, presses + turn * rounds)


def enough_rounds(level, endless, ticks):
    """More rounds than it takes for the first ticks to be as they stay."""
    return ticks // len(endless[1]) + 2 ** len(rights_of(level)) * len(lefts_of(level)) + 2


def drawn_rows(seed, many):
    """Levels with endless presses, some of them with rounds that are shorter lists repeated."""
    draw = random.Random(seed)
    rows = []
    for level in some_levels(seed, many, 4, 7):
        presses = some_presses(draw, level[0], draw.randint(0, 3))
        turn = some_presses(draw, level[0], draw.randint(1, 3)) * draw.choice((1, 1, 2))
        if presses and draw.random() < 0.3:
            presses[-1] = list(turn[-1])
        rows.append((level, (presses, turn)))
    return rows


def small_rows():
    """Small levels, each with some of the small endless presses, so that together all of these come."""
    told = {rooms: endless_of(rooms) for rooms in (1, 2)}
    rows = []
    for number, level in enumerate(small_levels()):
        of_level = told[level[0]]
        for step in range(4):
            rows.append((level, of_level[(number * 4 + step) % len(of_level)]))
    return rows


ROWS = small_rows() + drawn_rows(25, 150)


class ForEver(unittest.TestCase):

    def test_25_first_ticks_are_those_of_enough_rounds(self):
        for level, endless in ROWS:
            told = for_ever(level, endless)
            ticks = len(told[0]) + 2 * len(told[1]) + 2
            lit = plain_rounds(level, endless, enough_rounds(level, endless, ticks))
            self.assertEqual(unrolled(told, ticks), lit[:ticks], (level, endless))

    def test_25_no_number_of_rounds_lights_more(self):
        for level, endless in drawn_rows(251, 60):
            for rounds in range(5):
                lit = plain_rounds(level, endless, rounds)
                told = unrolled(for_ever(level, endless), len(lit))
                self.assertTrue(all(set(lights) <= set(more) for lights, more in zip(lit, told)))

    def test_25_it_is_plain_and_comes_round(self):
        for level, endless in ROWS:
            told = for_ever(level, endless)
            self.assertTrue(same(told, plain_endless(level, told)))
            most = len(endless[0]) + 2 ** len(rights_of(level)) * len(endless[1])
            self.assertLessEqual(len(told[0]) + len(told[1]), most)

    def test_25_endless_presses_that_are_alike_are_lit_alike(self):
        for level, endless in drawn_rows(252, 80):
            presses, turn = endless
            wanted = for_ever(level, endless)
            for other in ((presses, turn * 2), (presses + turn, turn), (presses + turn[:1], turn[1:] + turn[:1])):
                self.assertTrue(same(for_ever(level, other), wanted))

    def test_25_it_comes_round_late(self):
        self.assertEqual(for_ever(TURNING, ([[0]], [[]])), ([], [[0], [1], [2]]))
        self.assertEqual(for_ever(TURNING, ([], [[], []])), ([], [[]]))
        self.assertEqual(for_ever(TURNING, ([[0]], [[], []])), ([], [[0], [1], [2]]))
        self.assertEqual(for_ever((2, [([0], 1, 1)]), ([[0], [0]], [[]])), ([[0], [0, 1], [1]], [[]]))

    def test_25_each_tick_is_told_however_far(self):
        for level, endless in ROWS[::5]:
            ahead, turn = for_ever(level, endless)
            for tick in range(len(ahead) + 2 * len(turn) + 1):
                self.assertEqual(for_ever_at(level, endless, tick), unrolled((ahead, turn), tick + 1)[tick])
            for tick in (10 ** 29, 10 ** 30 - 1, 10 ** 30 - 2):
                self.assertEqual(for_ever_at(level, endless, tick), turn[(tick - len(ahead)) % len(turn)])

    def test_25_lit_rooms_have_trails_in_some_number_of_rounds(self):
        for level, endless in drawn_rows(253, 40):
            many = len(endless[0]) + 2 * len(endless[1])
            presses = endless[0] + endless[1] * stays_from(level, endless, many)
            told = unrolled(for_ever(level, endless), many)
            for tick, room in itertools.product(range(many), range(level[0])):
                trail = first_trail(level, presses, tick, room)
                self.assertEqual(trail is not None, room in told[tick])
                self.assertTrue(trail is None or is_trail(level, presses, tick, room, trail))


class Keeps(unittest.TestCase):

    def plainly(self, level, endless, value):
        """Both go the same way again behind so many ticks; a few more do no harm."""
        ticks = max(len(endless[0]), len(value[0])) + 2 * len(endless[1]) * len(value[1]) + 3
        lit, pressed = unrolled(value, ticks), unrolled(endless, ticks)
        # The last tick tells only what the one ahead leads to: what it leads back to is looked at a round ahead.
        return all(set(lights) <= set(more) for lights, more in zip(pressed, lit)) and all(
            room in lit[tick + shift]
            for tick in range(ticks - 1) for needs, room, shift in level[1]
            if set(needs) <= set(lit[tick]) and tick + shift >= 0)

    def test_26_each_endless_history_is_judged_and_has_all_that_is_lit(self):
        histories = {rooms: endless_of(rooms) for rooms in (1, 2)}
        kept = 0
        for number, (level, endless) in enumerate(small_rows()):
            step = 1 if level[0] == 1 else 11
            for value in histories[level[0]][number % step::step]:
                told = keeps_for_ever(level, endless, value)
                self.assertIs(told, self.plainly(level, endless, value), (level, endless, value))
                if told:
                    kept += 1
                    lit = unrolled(for_ever(level, endless), 12)
                    self.assertTrue(all(set(less) <= set(more) for less, more in zip(lit, unrolled(value, 12))))
        self.assertGreater(kept, 1000)

    def test_26_the_told_history_keeps_plain_or_not(self):
        for level, endless in ROWS:
            ahead, turn = for_ever(level, endless)
            for value in ((ahead, turn), (ahead, turn * 2), (ahead + turn, turn), (ahead + turn[:1], turn[1:] + turn[:1])):
                self.assertIs(keeps_for_ever(level, endless, value), True)

    def test_26_a_room_less_at_a_tick_is_no_history_that_keeps(self):
        for level, endless in drawn_rows(261, 80):
            ahead, turn = for_ever(level, endless)
            history = ahead + turn + turn
            for tick, lights in enumerate(history):
                for room in lights:
                    less = history[:tick] + [[other for other in lights if other != room]] + history[tick + 1:]
                    self.assertIs(keeps_for_ever(level, endless, (less, turn)), False)

    def test_26_doors_lead_back_from_where_the_round_begins(self):
        led = (2, [([0], 1, -1)])
        self.assertIs(keeps_for_ever(led, ([], [[0], []]), ([], [[0], [1]])), True)
        self.assertIs(keeps_for_ever(led, ([], [[0], []]), ([[0], [1]], [[0], []])), False)
        self.assertIs(keeps_for_ever(led, ([], [[]]), ([[]], [[0]])), False)
        self.assertIs(keeps_for_ever(led, ([], [[]]), ([[0, 1]], [[0, 1]])), True)
        self.assertIs(keeps_for_ever(led, ([], [[]]), ([[0], []], [[]])), True)

    def test_26_ticks_ahead_are_looked_at_in_both(self):
        late = ([[], [], [], [], [], [0]], [[]])
        self.assertIs(keeps_for_ever((1, []), late, ([], [[]])), False)
        self.assertIs(keeps_for_ever((1, []), late, ([], [[], [0]])), True)
        self.assertIs(keeps_for_ever((1, []), ([], [[]]), late), True)
        self.assertIs(keeps_for_ever((1, [([0], 0, 1)]), ([], [[]]), late), False)

    def test_26_other_values_are_refused_by_false(self):
        for value in (None, [], ([[]],), ([], []), [[], [[]]], ([], [[2]]), ([[0, 0]], [[]]), ([], [[True]]), ([], ([],)),
                      ([], [[]], []), "", 0, {}):
            self.assertIs(keeps_for_ever(LOOP, ([], [[]]), value), False)


class Stays(unittest.TestCase):

    def plainly(self, level, endless, many):
        wanted = unrolled(for_ever(level, endless), many)
        bound = enough_rounds(level, endless, many + len(endless[1]))
        fits = [plain_rounds(level, endless, rounds)[:many] == wanted for rounds in range(bound + 1)]
        self.assertTrue(fits[-1])
        return max([rounds + 1 for rounds, is_fitting in enumerate(fits) if not is_fitting], default=0)

    def test_27_it_is_the_least_number_of_rounds(self):
        rows = ROWS[::9] + drawn_rows(27, 60)
        for level, endless in rows:
            for many in range(6):
                self.assertEqual(stays_from(level, endless, many), self.plainly(level, endless, many))

    def test_27_it_is_at_most_the_rounds_begun_and_the_settled_number(self):
        for level, endless in ROWS:
            presses, turn = endless
            for many in (0, 1, 5, 60):
                begun = -(-max(many - len(presses), 0) // len(turn))
                self.assertLessEqual(stays_from(level, endless, many), begun + settled(level, turn)[1])

    def test_27_rounds_are_counted_as_they_are_handed_in(self):
        self.assertEqual(stays_from(LOOP, ([], [[], []]), 4), 2)
        self.assertEqual(stays_from(LOOP, ([], [[]] * 4), 4), 1)
        self.assertEqual(stays_from(LOOP, ([[0]], [[]]), 0), 0)
        self.assertEqual(stays_from(LOOP, ([[0]], [[]]), 1), 1)
        self.assertEqual(stays_from(LOOP, ([[]] * 12, [[]]), 12), 0)
        self.assertEqual(stays_from((1, []), ([], [[]]), 60), 60)
        self.assertEqual(stays_from((2, [([0], 1, -1), ([1], 1, -1)]), ([], [[], [0]]), 4), 3)

    def test_27_at_most_60_ticks(self):
        for many in (61, 10 ** 29):
            with self.assertRaises(InvalidNumber) as caught:
                stays_from(LOOP, ([], [[]]), many)
            self.assertEqual(caught.exception.value, many)


class Reach(unittest.TestCase):

    def rows(self):
        draw = random.Random(28)
        rows = []
        for level in small_levels()[::3] + some_levels(281, 150, 4, 7):
            presses = some_presses(draw, level[0], draw.randint(1, 5))
            tick = draw.randrange(len(presses))
            rows.append((level, presses, tick, some_presses(draw, level[0], 1)[0] or [level[0] - 1]))
        return rows

    def pressed_more(self, presses, tick, lights):
        return presses[:tick] + [sorted({*presses[tick], *lights})] + presses[tick + 1:]

    def test_28_what_is_changed_and_added(self):
        for level, presses, tick, lights in self.rows():
            before = plain_light(level, presses)
            behind = plain_light(level, self.pressed_more(presses, tick, lights))
            wanted = [(at, sorted(set(more) - set(less)))
                      for at, (less, more) in enumerate(zip(before, behind)) if less != more]
            self.assertTrue(same(added(level, presses, tick, lights), wanted))
            self.assertTrue(same(changed(level, presses, tick, lights), [at for at, _ in wanted]))
            self.assertTrue(all(set(less) <= set(more) for less, more in zip(before, behind)))

    def test_28_a_press_twice_and_none(self):
        self.assertEqual(changed(LOOP, [[0], []], 0, [0]), [])
        self.assertEqual(added(LOOP, [[], []], 0, []), [])
        self.assertEqual(reach_back(LOOP, [[], [0]], 1, [0]), 1)
        self.assertEqual(added(HALL, [[], []], 0, [1, 2]), [(0, [2]), (1, [0])])
        self.assertEqual(changed(HALL, [[], []], 0, [1, 2]), [0, 1])
        self.assertEqual(changed(HALL, [[], []], 0, [1]), [])

    def test_28_reach_is_where_the_rest_tables_part(self):
        for level, presses, tick, lights in self.rows():
            more = self.pressed_more(presses, tick, lights)
            alike = [at for at in range(tick + 1) if plain_rest(level, presses[at:]) == plain_rest(level, more[at:])]
            self.assertTrue(same(reach_back(level, presses, tick, lights), max(alike, default=0)))

    def test_28_ahead_of_the_reach_nothing_changes_whatever_stands_there(self):
        for level, presses, tick, lights in self.rows()[::4]:
            reach = reach_back(level, presses, tick, lights)
            more = self.pressed_more(presses, tick, lights)
            if plain_rest(level, presses[reach:]) == plain_rest(level, more[reach:]):
                for ahead in presses_up_to(min(level[0], 2), 2):
                    one = plain_light(level, ahead + presses[reach:])
                    other = plain_light(level, ahead + more[reach:])
                    self.assertEqual(one[:len(ahead)], other[:len(ahead)])
                    self.assertTrue(plainly_keeps(level, ahead + presses[reach:], one))


if __name__ == "__main__":
    unittest.main()
