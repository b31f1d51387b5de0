"""The examples of the document, each with just the result that stands there."""

import unittest

from tests.helpers import same
from timedoors.far import far_dark_paper, far_light, far_table, first_lit, is_far_dark, last_lit, times_lit
from timedoors.levels import are_endless, are_letters, are_presses, are_runs, both_pressed, how_many_ticks, is_door
from timedoors.levels import is_level, left_rooms, plain_endless, pressed_at, right_rooms, spread_out
from timedoors.light import common, gained, how_many_keep, keeps, light, lit_rounds
from timedoors.rests import front_behind, front_table, is_front, is_rest, lit_between, rest_ahead, rest_table, settled
from timedoors.tables import can_stand_for, is_table, joined, repeats, table_of
from timedoors.texts import history_in, level_of_text, picture, presses_of_text, text_of_level, text_of_presses
from timedoors.trails import first_trail, givers, how_many_without, is_dark_paper, is_trail, sole_light, trail_depth


class Examples(unittest.TestCase):

    def told(self, got, wanted):
        self.assertEqual(got, wanted)
        self.assertTrue(same(got, wanted))

    def test_examples_of_levels(self):
        hall = (3, [([0, 1], 2, 0), ([2], 0, 1), ([], 1, -1)])
        self.told(
            [is_level(hall), is_level((0, [])), is_level((2, [([1, 0], 1, 0)])), is_level((2, [([], 2, 0)])),
             is_door(3, ([0], 0, -1)), is_door(3, ([0], 0, 2))],
            [True, False, False, False, True, False])
        self.told(
            [are_presses(hall, [[0], [], [1, 2]]), are_presses(hall, [[3]]), are_runs(hall, [([0], 10), ([], 0)]),
             are_endless(hall, ([], [[]])), are_endless(hall, ([], [])), are_letters(hall, [[], [0, 1], [2]])],
            [True, False, True, True, False, True])
        self.told(
            [right_rooms(hall), left_rooms(hall), both_pressed(hall, [[0], []], [[1], [], [0]]),
             spread_out(hall, [([0], 2), ([], 1)]), how_many_ticks(hall, [([0], 10 ** 20), ([], 1)])],
            [[0], [1], [[0, 1], [], [0]], [[0], [0], []], 100000000000000000001])
        self.told(
            [plain_endless(hall, ([[0], [1], [0]], [[1], [0], [1], [0]])),
             pressed_at(hall, ([[0]], [[1], []]), 10 ** 20)],
            [([], [[0], [1]]), []])

    def test_examples_of_texts(self):
        hall = (3, [([0, 1], 2, 0), ([2], 0, 1), ([], 1, -1)])
        self.told(
            [text_of_level(hall), text_of_level((1, [])), text_of_presses(hall, [[0, 2], [], [1]]),
             text_of_presses(hall, []), level_of_text("2: -<0 0.1>1"), presses_of_text(hall, "- 0.1")],
            ["3: 0.1=2 2>0 -<1", "1:", "0.2 - 1", "", (2, [([], 0, -1), ([0, 1], 1, 1)]), [[], [0, 1]]])
        self.told(
            [picture(hall, [[0], [], [0, 2]]), history_in(hall, ["#.#", "...", "..#"]), picture(hall, [])],
            [["#.#", "...", "..#"], [[0], [], [0, 2]], ["", "", ""]])

    def test_examples_of_light(self):
        back = (3, [([0], 1, 0), ([1], 2, -1), ([2], 2, -1)])
        self.told(
            [light(back, [[], [], [0]]), lit_rounds(back, [[], [], [0]]), gained(back, [[], [], []], [[], [], [0]])],
            [[[2], [2], [0, 1]], [[None, None, 3], [None, None, 2], [0, 1, None]], [(0, 2), (1, 2), (2, 0), (2, 1)]])
        self.told(
            [keeps(back, [[], [0]], [[2], [0, 1]]), keeps(back, [[], [0]], [[], [0, 1]]),
             how_many_keep((2, [([0], 1, 0)]), [[], []]), common((1, []), [[], []], [[0], []], [[0], [0]])],
            [True, False, 9, [[0], []]])

    def test_examples_of_trails(self):
        back = (3, [([0], 1, 0), ([1], 2, -1), ([2], 2, -1)])
        self.told(
            [first_trail(back, [[], [], [0]], 1, 2), trail_depth(back, [[], [], [0]], 0, 2),
             first_trail(back, [[], [], [0]], 0, 0)],
            [[(2, 0, ("press",)), (2, 1, ("door", 0)), (1, 2, ("door", 1))], 3, None])
        self.told(
            [is_trail(back, [[0]], 0, 1, [(0, 0, ("press",)), (0, 1, ("door", 0))]),
             is_trail(back, [[0]], 0, 1, [(0, 1, ("door", 0)), (0, 0, ("press",))]),
             is_trail((1, [([0], 0, 0)]), [[]], 0, 0, [(0, 0, ("door", 0))])],
            [True, False, False])
        self.told(
            [is_dark_paper(back, [[], [0]], 0, 0, [[2], [0, 1]]), is_dark_paper(back, [[], [0]], 0, 0, [[1, 2], [0, 1]]),
             how_many_without((2, [([0], 1, 0)]), [[]], 0, 1), givers(back, [[], [], [0]], 0, 2),
             sole_light(back, [[], [0]])],
            [True, True, 1, [2], [(0, 2), (1, 1)]])

    def test_examples_of_tables(self):
        back = (2, [([1], 0, 0), ([0], 1, -1)])
        self.told(
            [table_of(back, [[]]), table_of(back, [[0]]), table_of(back, [])],
            [[([], [], [], []), ([], [1], [1], [])], [([], [], [1], []), ([], [1], [1], [])],
             [([], [], [], []), ([], [1], [1], [])]])
        relay = (2, [([0], 0, 1), ([0], 1, -1)])
        self.told(
            [table_of(relay, [[]]),
             joined(relay, table_of(relay, [[0]]), table_of(relay, [[]])) == table_of(relay, [[0], []])],
            [[([], [], [], []), ([], [1], [], []), ([0], [], [1], [0]), ([0], [1], [1], [0])], True])
        self.told(
            [is_table(relay, table_of(relay, [[0]])),
             is_table(relay, [([], [], [1], []), ([], [1], [], []), ([0], [], [1], [0]), ([0], [1], [1], [0])]),
             can_stand_for(relay, [[0]], [[0, 1]]), can_stand_for(relay, [[]], [[], []])],
            [True, False, True, True])
        self.told(
            [len(repeats(relay, [[]])[0]), len(repeats(relay, [[]])[1]),
             repeats(relay, [[]])[1][0] == table_of(relay, [[]])],
            [1, 1, True])

    def test_examples_of_far(self):
        relay = (2, [([0], 0, 1), ([0], 1, -1)])
        runs = [([], 10 ** 20), ([0], 1), ([], 10 ** 20)]
        self.told(
            [far_table(relay, runs) == table_of(relay, [[0], []]), far_light(relay, runs, 10 ** 20 - 2),
             far_light(relay, runs, 10 ** 20 - 1), far_light(relay, runs, 10 ** 20),
             far_light(relay, runs, 2 * 10 ** 20)],
            [False, [], [1], [0, 1], [0]])
        self.told(
            [times_lit(relay, runs, 0), times_lit(relay, runs, 1), first_lit(relay, runs, 1), last_lit(relay, runs, 1),
             first_lit(relay, [([], 5)], 0)],
            [100000000000000000001, 100000000000000000001, 99999999999999999999, 199999999999999999999, None])
        self.told(
            [far_dark_paper(relay, runs, 10 ** 20, 0), far_dark_paper(relay, runs, 10 ** 20 - 1, 0),
             far_dark_paper(relay, runs, 5, 1), is_far_dark(relay, runs, 5, 1, ([], [1])),
             is_far_dark(relay, runs, 5, 0, ([], [1]))],
            [None, ([], [1]), ([], []), False, True])

    def test_examples_of_rests(self):
        loop = (2, [([0], 1, 1), ([1], 0, 0), ([1], 1, -1)])
        self.told(
            [rest_table(loop, []), rest_table(loop, [[]]), rest_table(loop, [[0], []]),
             rest_ahead(loop, [0], rest_table(loop, [[]]))],
            [[([], []), ([1], [])], [([], []), ([1], [1])], [([], [1]), ([1], [1])], [([], [1]), ([1], [1])]])
        self.told(
            [front_table(loop, [[0]]), lit_between(loop, front_table(loop, [[0]]), [], rest_table(loop, [[]])),
             is_rest(loop, [([], [1]), ([1], [])]), is_front(loop, front_behind(loop, front_table(loop, []), [0]))],
            [[([], [1]), ([1], [1])], [0, 1], False, True])
        self.told([settled(loop, [[]])], [([([], []), ([1], [1])], 1)])


if __name__ == "__main__":
    unittest.main()
