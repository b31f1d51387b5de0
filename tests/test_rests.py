"""[22] to [24]: rest tables, front tables, settled ones."""

import itertools
import random
import unittest

from tests.helpers import LOOP, RELAY, all_presses, lefts_of, odd_values, plain_front, plain_light, plain_rest
from tests.helpers import plain_sent, presses_up_to, rights_of, same, small_levels, some_levels, some_presses, subsets
from timedoors import errors
from timedoors.light import light
from timedoors.rests import front_behind, front_table, is_front, is_rest, lit_between, rest_ahead, rest_table, settled

WIDE = (3, [([0], 1, 1), ([1], 0, 1), ([2], 1, 0), ([0, 1], 2, -1), ([1], 0, -1)])


def rows_of_form(came, sent):
    """All lists of tuples with each set that comes in, in order, rising or not."""
    for told in itertools.product(subsets(sent), repeat=2 ** len(came)):
        yield list(zip(subsets(came), told))


def rising(row):
    return all(set(one[1]) <= set(other[1]) for one in row for other in row if set(one[0]) <= set(other[0]))


def told_for(row, lights):
    return [sent for coming, sent in row if coming == lights][0]


def closed(level, lights):
    return plain_light((level[0], [door for door in level[1] if door[2] == 0]), [sorted(lights)])[0]


def plain_rest_ahead(level, lights, rest):
    """[22] by its words: going on from nothing until it fits."""
    told = []
    for coming, _ in rest:
        back, fits = [], False
        while not fits:
            lit = closed(level, {*coming, *lights, *back})
            fits = told_for(rest, plain_sent(level, lit, 1)) == back
            back = told_for(rest, plain_sent(level, lit, 1))
        told.append((coming, plain_sent(level, lit, -1)))
    return told


def plain_front_behind(level, front, lights):
    told = []
    for coming, _ in front:
        onward, fits = [], False
        while not fits:
            lit = closed(level, {*coming, *lights, *onward})
            fits = told_for(front, plain_sent(level, lit, -1)) == onward
            onward = told_for(front, plain_sent(level, lit, -1))
        told.append((coming, plain_sent(level, lit, 1)))
    return told


def rests_of(level):
    return [row for row in rows_of_form(rights_of(level), lefts_of(level)) if rising(row)]


def fronts_of(level):
    return [row for row in rows_of_form(lefts_of(level), rights_of(level)) if rising(row)]


def some_rows(seed, many):
    draw = random.Random(seed)
    return [(level, some_presses(draw, level[0], draw.randint(0, 6))) for level in some_levels(seed, many, 5, 8)]


class Rests(unittest.TestCase):

    def test_22_rest_tables_of_presses(self):
        rows = [(level, presses) for level in small_levels()[::2] for presses in presses_up_to(level[0], 2)]
        for level, presses in rows + some_rows(22, 100):
            told = rest_table(level, presses)
            self.assertTrue(same(told, plain_rest(level, presses)))
            self.assertIs(is_rest(level, told), True)

    def test_22_further_ticks_and_presses_never_make_it_send_less(self):
        for level in small_levels()[::7]:
            for presses, more in itertools.product(all_presses(level[0], 1), repeat=2):
                rest = rest_table(level, presses)
                both = [sorted({*presses[0], *more[0]})]
                for greater in (rest_table(level, presses + more), rest_table(level, both)):
                    self.assertTrue(all(set(x[1]) <= set(y[1]) for x, y in zip(rest, greater)))

    def test_22_what_is_a_rest(self):
        for level, many in ((LOOP, 3), (WIDE, 36)):
            some = 0
            for row in rows_of_form(rights_of(level), lefts_of(level)):
                self.assertIs(is_rest(level, row), rising(row))
                some += rising(row)
            self.assertEqual(some, many)
        told = rest_table(LOOP, [[0]])
        wrong = [told[:1], told + told, told[::-1], tuple(told), [list(line) for line in told], [([], []), ([True], [])],
                 [([], []), ([1], [0])], [([], []), ([1], [True])], [([], []), ([1], [], [])], [([], []), ([1],)]]
        for value in odd_values() + wrong:
            with self.subTest(value=value):
                self.assertIs(is_rest(LOOP, value), False)
        self.assertIs(is_rest((1, []), [([], [])]), True)
        self.assertIs(is_rest((1, []), [([], [0])]), False)
        self.assertIs(is_rest((70, [([], room, 1) for room in range(70)]), told), False)

    def test_22_rest_ahead(self):
        for level in (RELAY, LOOP, WIDE):
            for lights, rest in itertools.product(subsets(range(level[0])), rests_of(level)):
                told = rest_ahead(level, lights, rest)
                self.assertTrue(same(told, plain_rest_ahead(level, lights, rest)))
                self.assertIs(is_rest(level, told), True)
        for level, presses in some_rows(220, 60):
            told = rest_table(level, [])
            self.assertEqual([left for _, left in told], [[] for _ in told])
            for lights in presses[::-1]:
                told = rest_ahead(level, lights, told)
            self.assertEqual(told, rest_table(level, presses))


class Fronts(unittest.TestCase):

    def test_23_front_tables_of_presses(self):
        rows = [(level, presses) for level in small_levels()[::2] for presses in presses_up_to(level[0], 2)]
        for level, presses in rows + some_rows(23, 100):
            told = front_table(level, presses)
            self.assertTrue(same(told, plain_front(level, presses)))
            self.assertIs(is_front(level, told), True)

    def test_23_what_is_a_front(self):
        for level, many in ((LOOP, 3), (WIDE, 36)):
            some = 0
            for row in rows_of_form(lefts_of(level), rights_of(level)):
                self.assertIs(is_front(level, row), rising(row))
                some += rising(row)
            self.assertEqual(some, many)
        told = front_table(RELAY, [[0]])
        wrong = [told[:1], told + told, told[::-1], tuple(told), [list(line) for line in told], rest_table(RELAY, [[0]]),
                 [([], []), ([True], [0])], [([], []), ([1], [1])], [([], []), ([1], [False])]]
        for value in odd_values() + wrong:
            with self.subTest(value=value):
                self.assertIs(is_front(RELAY, value), False)

    def test_23_front_behind(self):
        for level in (RELAY, LOOP, WIDE):
            for front, lights in itertools.product(fronts_of(level), subsets(range(level[0]))):
                told = front_behind(level, front, lights)
                self.assertTrue(same(told, plain_front_behind(level, front, lights)))
                self.assertIs(is_front(level, told), True)
        for level, presses in some_rows(230, 60):
            told = front_table(level, [])
            self.assertEqual([right for _, right in told], [[] for _ in told])
            for lights in presses:
                told = front_behind(level, told, lights)
            self.assertEqual(told, front_table(level, presses))

    def test_23_the_light_is_what_is_lit_between(self):
        rows = [(level, presses) for level in small_levels()[::4] for presses in all_presses(level[0], 3)[::7]]
        for level, presses in rows + some_rows(231, 100):
            lit = light(level, presses)
            for tick, lights in enumerate(presses):
                front, rest = front_table(level, presses[:tick]), rest_table(level, presses[tick + 1:])
                self.assertTrue(same(lit_between(level, front, lights, rest), lit[tick]))

    def test_23_lit_between_any_front_and_rest(self):
        for level in (RELAY, LOOP):
            for front, rest in itertools.product(fronts_of(level), rests_of(level)):
                for lights in subsets(range(level[0])):
                    fitting = []
                    for lit in subsets(range(level[0])):
                        more = {*lights, *told_for(front, plain_sent(level, lit, -1))}
                        more |= set(told_for(rest, plain_sent(level, lit, 1)))
                        if more <= set(lit) and closed(level, lit) == lit:
                            fitting.append(lit)
                    least = [lit for lit in fitting if all(set(lit) <= set(other) for other in fitting)]
                    self.assertEqual([lit_between(level, front, lights, rest)], least)


class Settled(unittest.TestCase):

    def test_24_settled(self):
        rows = [(level, presses) for level in small_levels()[::3] for presses in presses_up_to(level[0], 2)[1::2]]
        for level, presses in rows + [row for row in some_rows(24, 60) if row[1]]:
            rest, many = settled(level, presses)
            self.assertIs(is_rest(level, rest), True)
            for times in range(many + 3):
                self.assertEqual(rest_table(level, presses * times) == rest, times >= many)
            self.assertLessEqual(many, 2 ** len(rights_of(level)) * len(lefts_of(level)))
            self.assertEqual(self.ahead_of(level, presses, rest), rest)

    def ahead_of(self, level, presses, rest):
        for lights in presses[::-1]:
            rest = rest_ahead(level, lights, rest)
        return rest

    def test_24_it_is_the_least_that_stays_as_it_is(self):
        for level in (RELAY, LOOP, WIDE):
            for presses in presses_up_to(level[0], 2)[1::5]:
                least = settled(level, presses)[0]
                for rest in rests_of(level):
                    if self.ahead_of(level, presses, rest) == rest:
                        self.assertTrue(all(set(x[1]) <= set(y[1]) for x, y in zip(least, rest)))

    def test_24_edges(self):
        self.assertTrue(same(settled(LOOP, [[]]), ([([], []), ([1], [1])], 1)))
        self.assertTrue(same(settled((1, []), [[0]]), ([([], [])], 0)))
        self.assertTrue(same(settled((2, [([0], 1, -1), ([1], 0, -1)]), [[]]), ([([], [])], 0)))
        chain = (4, [([0], 1, -1), ([1], 2, -1), ([2], 3, -1)])
        self.assertEqual(settled(chain, [[0]]), ([([], [1, 2, 3])], 3))
        with self.assertRaises(errors.InvalidPresses) as caught:
            settled(LOOP, [])
        self.assertEqual(caught.exception.value, [])


if __name__ == "__main__":
    unittest.main()
