"""[15] to [18]: tables of stretches."""

import itertools
import random
import unittest

from tests.helpers import RELAY, all_presses, lefts_of, odd_values, plain_table, presses_up_to, rights_of, same
from tests.helpers import small_levels, some_levels, some_presses, subsets
from timedoors.light import light
from timedoors.tables import can_stand_for, is_table, joined, repeats, table_of

TURN = (3, [([0], 1, 1), ([1], 2, 1), ([2], 0, 1)])


def rising(lines):
    for one, other in itertools.product(lines, repeat=2):
        if all(set(one[at]) <= set(other[at]) for at in (0, 1)):
            if not all(set(one[at]) <= set(other[at]) for at in (2, 3)):
                return False
    return True


def lists_of_form(level):
    """All lists of lines with the right P and Q and with lights of the right rooms, rising or not."""
    rights, lefts = subsets(rights_of(level)), subsets(lefts_of(level))
    heads = list(itertools.product(rights, lefts))
    for sent in itertools.product(itertools.product(lefts, rights), repeat=len(heads)):
        yield [head + tail for head, tail in zip(heads, sent)]


class Tables(unittest.TestCase):

    def test_15_tables_of_presses(self):
        for level in small_levels()[::2]:
            for presses in presses_up_to(level[0], 2):
                told = table_of(level, presses)
                self.assertTrue(same(told, plain_table(level, presses)))
                self.assertIs(is_table(level, told), True)

    def test_15_tables_of_larger_levels(self):
        draw = random.Random(15)
        for level in some_levels(15, 60, 5, 8):
            presses = some_presses(draw, level[0], draw.randint(0, 6))
            told = table_of(level, presses)
            self.assertTrue(same(told, plain_table(level, presses)))
            self.assertIs(is_table(level, told), True)

    def test_15_the_order_is_pythons(self):
        level = (3, [([], 0, 1), ([], 2, 1), ([1], 1, -1)])
        told = [line[:2] for line in table_of(level, [[]])]
        self.assertEqual(told, list(itertools.product([[], [0], [0, 2], [2]], [[], [1]])))
        self.assertEqual(table_of((2, [([], 0, 0)]), [[], []]), [([], [], [], [])])

    def test_15_what_is_a_table_by_the_words(self):
        some = 0
        for value in lists_of_form(RELAY):
            self.assertIs(is_table(RELAY, value), rising(value))
            some += rising(value)
        self.assertEqual(some, 36)
        right_only = (2, [([0], 1, 1), ([1], 0, 1)])
        for value in lists_of_form(right_only):
            self.assertIs(is_table(right_only, value), rising(value))

    def test_15_other_values_are_no_tables(self):
        told = table_of(RELAY, [[0]])
        for value in odd_values() + [told[:-1], told + told[-1:], told[::-1], tuple(told), [list(x) for x in told]]:
            self.assertIs(is_table(RELAY, value), False)
        self.assertIs(is_table((1, []), [([], [], [], [])]), True)
        self.assertIs(is_table((1, []), [([], [], [], [0])]), False)
        self.assertIs(is_table((1, []), []), False)
        wide = (60, [([], room, shift) for room in range(60) for shift in (-1, 1)])
        self.assertIs(is_table(wide, told), False)


class Joined(unittest.TestCase):

    def test_16_tables_of_presses_behind_one_another(self):
        for level in small_levels()[::6]:
            for one, other in itertools.product(presses_up_to(level[0], 1), presses_up_to(level[0], 2)):
                told = joined(level, table_of(level, one), table_of(level, other))
                self.assertTrue(same(told, plain_table(level, one + other)))

    def test_16_tables_of_larger_levels(self):
        draw = random.Random(16)
        for level in some_levels(16, 80, 5, 8):
            parts = [some_presses(draw, level[0], draw.randint(0, 4)) for _ in range(3)]
            tables = [table_of(level, part) for part in parts]
            told = joined(level, joined(level, tables[0], tables[1]), tables[2])
            self.assertEqual(told, joined(level, tables[0], joined(level, tables[1], tables[2])))
            self.assertEqual(told, plain_table(level, parts[0] + parts[1] + parts[2]))

    def test_16_joining_any_three_tables(self):
        tables = [value for value in lists_of_form(RELAY) if rising(value)]
        pairs = {}
        for one, other in itertools.product(range(len(tables)), repeat=2):
            pairs[(one, other)] = tables.index(joined(RELAY, tables[one], tables[other]))
        for one, two, three in itertools.product(range(len(tables)), repeat=3):
            self.assertEqual(pairs[(pairs[(one, two)], three)], pairs[(one, pairs[(two, three)])])
        none = tables.index(table_of(RELAY, []))
        for one in range(len(tables)):
            self.assertEqual([pairs[(one, none)], pairs[(none, one)]], [one, one])

    def test_16_joining_by_the_words(self):
        tables = [value for value in lists_of_form(RELAY) if rising(value)]
        for one, other in itertools.product(tables, repeat=2):
            first, second = ({(str(p), str(q)): sent for p, q, *sent in told} for told in (one, other))
            lines = []
            for right, left in itertools.product(subsets([0]), subsets([1])):
                least = [(x, y) for x in subsets([0]) for y in subsets([1])
                         if first[(str(right), str(y))][1] == x and second[(str(x), str(left))][0] == y]
                x, y = min(least, key=lambda pair: len(pair[0]) + len(pair[1]))
                lines.append((right, left, first[(str(right), str(y))][0], second[(str(x), str(left))][1]))
            self.assertEqual(joined(RELAY, one, other), lines)


class Repeats(unittest.TestCase):

    def test_17_repeats(self):
        rows = [(level, presses) for level in small_levels()[::5] for presses in presses_up_to(level[0], 1)]
        rows += [(TURN, [[]]), (TURN, [[], []]), (TURN, []), ((5, TURN[1] + [([3], 4, 1), ([4], 3, 1)]), [[]])]
        for level, presses in rows:
            ahead, turn = repeats(level, presses)
            self.assertTrue(turn)
            self.assertTrue(all(one != other for one, other in itertools.combinations(ahead + turn, 2)))
            self.assertEqual((ahead + turn)[0], table_of(level, []))
            for many in range(len(ahead) + 2 * len(turn) + 1):
                told = ahead[many] if many < len(ahead) else turn[(many - len(ahead)) % len(turn)]
                self.assertEqual(told, table_of(level, presses * many))

    def test_17_rounds_of_several_tables(self):
        self.assertEqual([len(part) for part in repeats(TURN, [[]])], [0, 3])
        self.assertEqual([len(part) for part in repeats(TURN, [[]] * 3)], [0, 1])
        self.assertEqual([len(part) for part in repeats((5, TURN[1] + [([3], 4, 1), ([4], 3, 1)]), [[]])], [0, 6])
        self.assertEqual(repeats(RELAY, []), ([], [table_of(RELAY, [])]))


class Standing(unittest.TestCase):

    def test_18_one_stands_for_the_other_exactly_with_the_same_table(self):
        for level in small_levels()[::12]:
            told = presses_up_to(level[0], 2)[:12]
            for one, other in itertools.product(told, repeat=2):
                equal = plain_table(level, one) == plain_table(level, other)
                self.assertIs(can_stand_for(level, one, other), equal)

    def test_18_no_tick_outside_is_lit_otherwise(self):
        found = 0
        for level in small_levels()[::15]:
            for one, other in itertools.combinations(presses_up_to(level[0], 2)[:10], 2):
                if not can_stand_for(level, one, other):
                    continue
                found += 1
                for ahead, behind in itertools.product(all_presses(level[0], 1), repeat=2):
                    first, second = light(level, ahead + one + behind), light(level, ahead + other + behind)
                    self.assertEqual([first[0], first[-1]], [second[0], second[-1]])
        self.assertGreater(found, 50)


if __name__ == "__main__":
    unittest.main()
