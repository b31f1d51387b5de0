"""The examples of the document, each with just the result that stands there."""

import unittest

from tests.helpers import same
from timedoors.alike import are_alike, idle_doors, is_enough, is_parting, least_lots, lighting, parting, without_doors
from timedoors.beside import how_many_beside, shortest_beside
from timedoors.counting import how_many_walks, number_of_walk, walk_numbered
from timedoors.endless import added, changed, for_ever, for_ever_at, keeps_for_ever, reach_back, stays_from
from timedoors.far import far_dark_paper, far_light, far_table, first_lit, is_far_dark, last_lit, times_lit
from timedoors.hands import are_stays, debts, earned, far_steps, first_shut, greatest_playable, open_steps, opened_by
from timedoors.hands import put_off, why_unplayable
from timedoors.houses import hands_light, is_house, is_walk, pressed_by, steps_between
from timedoors.levels import are_endless, are_letters, are_presses, are_runs, both_pressed, how_many_ticks, is_door
from timedoors.levels import is_level, left_rooms, plain_endless, pressed_at, right_rooms, spread_out
from timedoors.light import common, gained, how_many_keep, keeps, light, lit_rounds
from timedoors.puzzles import is_no_walk_paper, no_walk_paper, shortest_lighting, shortest_walk, state_of, states_met
from timedoors.reasons import alone, crossing, cuts, fewest_cut, fewest_reason, how_many_light, idle_presses, is_added
from timedoors.reasons import is_cut, is_reason, presses_in, reasons, sure_presses, together, with_only, without
from timedoors.rescue import rescue, settled_past
from timedoors.rests import front_behind, front_table, is_front, is_rest, lit_between, rest_ahead, rest_table, settled
from timedoors.tables import can_stand_for, is_table, joined, repeats, table_of
from timedoors.texts import history_in, level_of_text, picture, presses_of_text, text_of_level, text_of_presses
from timedoors.trails import first_trail, givers, how_many_without, is_dark_paper, is_trail, sole_light, trail_depth


class Examples(unittest.TestCase):

    def told(self, got, wanted):
        self.assertEqual(got, wanted)
        self.assertTrue(same(got, wanted))

    def test_examples_of_levels(self):
        hall = (3, [([0, 1], 2, 0), ([2], 0, 1), ([], 1, -1)])
        self.told(
            [is_level(hall), is_level((0, [])), is_level((2, [([1, 0], 1, 0)])), is_level((2, [([], 2, 0)])),
             is_door(3, ([0], 0, -1)), is_door(3, ([0], 0, 2))],
            [True, False, False, False, True, False])
        self.told(
            [are_presses(hall, [[0], [], [1, 2]]), are_presses(hall, [[3]]), are_runs(hall, [([0], 10), ([], 0)]),
             are_endless(hall, ([], [[]])), are_endless(hall, ([], [])), are_letters(hall, [[], [0, 1], [2]])],
            [True, False, True, True, False, True])
        self.told(
            [right_rooms(hall), left_rooms(hall), both_pressed(hall, [[0], []], [[1], [], [0]]),
             spread_out(hall, [([0], 2), ([], 1)]), how_many_ticks(hall, [([0], 10 ** 20), ([], 1)])],
            [[0], [1], [[0, 1], [], [0]], [[0], [0], []], 100000000000000000001])
        self.told(
            [plain_endless(hall, ([[0], [1], [0]], [[1], [0], [1], [0]])),
             pressed_at(hall, ([[0]], [[1], []]), 10 ** 20)],
            [([], [[0], [1]]), []])

    def test_examples_of_texts(self):
        hall = (3, [([0, 1], 2, 0), ([2], 0, 1), ([], 1, -1)])
        self.told(
            [text_of_level(hall), text_of_level((1, [])), text_of_presses(hall, [[0, 2], [], [1]]),
             text_of_presses(hall, []), level_of_text("2: -<0 0.1>1"), presses_of_text(hall, "- 0.1")],
            ["3: 0.1=2 2>0 -<1", "1:", "0.2 - 1", "", (2, [([], 0, -1), ([0, 1], 1, 1)]), [[], [0, 1]]])
        self.told(
            [picture(hall, [[0], [], [0, 2]]), history_in(hall, ["#.#", "...", "..#"]), picture(hall, [])],
            [["#.#", "...", "..#"], [[0], [], [0, 2]], ["", "", ""]])

    def test_examples_of_light(self):
        back = (3, [([0], 1, 0), ([1], 2, -1), ([2], 2, -1)])
        self.told(
            [light(back, [[], [], [0]]), lit_rounds(back, [[], [], [0]]), gained(back, [[], [], []], [[], [], [0]])],
            [[[2], [2], [0, 1]], [[None, None, 3], [None, None, 2], [0, 1, None]], [(0, 2), (1, 2), (2, 0), (2, 1)]])
        self.told(
            [keeps(back, [[], [0]], [[2], [0, 1]]), keeps(back, [[], [0]], [[], [0, 1]]),
             how_many_keep((2, [([0], 1, 0)]), [[], []]), common((1, []), [[], []], [[0], []], [[0], [0]])],
            [True, False, 9, [[0], []]])

    def test_examples_of_trails(self):
        back = (3, [([0], 1, 0), ([1], 2, -1), ([2], 2, -1)])
        self.told(
            [first_trail(back, [[], [], [0]], 1, 2), trail_depth(back, [[], [], [0]], 0, 2),
             first_trail(back, [[], [], [0]], 0, 0)],
            [[(2, 0, ("press",)), (2, 1, ("door", 0)), (1, 2, ("door", 1))], 3, None])
        self.told(
            [is_trail(back, [[0]], 0, 1, [(0, 0, ("press",)), (0, 1, ("door", 0))]),
             is_trail(back, [[0]], 0, 1, [(0, 1, ("door", 0)), (0, 0, ("press",))]),
             is_trail((1, [([0], 0, 0)]), [[]], 0, 0, [(0, 0, ("door", 0))])],
            [True, False, False])
        self.told(
            [is_dark_paper(back, [[], [0]], 0, 0, [[2], [0, 1]]), is_dark_paper(back, [[], [0]], 0, 0, [[1, 2], [0, 1]]),
             how_many_without((2, [([0], 1, 0)]), [[]], 0, 1), givers(back, [[], [], [0]], 0, 2),
             sole_light(back, [[], [0]])],
            [True, True, 1, [2], [(0, 2), (1, 1)]])

    def test_examples_of_tables(self):
        back = (2, [([1], 0, 0), ([0], 1, -1)])
        self.told(
            [table_of(back, [[]]), table_of(back, [[0]]), table_of(back, [])],
            [[([], [], [], []), ([], [1], [1], [])], [([], [], [1], []), ([], [1], [1], [])],
             [([], [], [], []), ([], [1], [1], [])]])
        relay = (2, [([0], 0, 1), ([0], 1, -1)])
        self.told(
            [table_of(relay, [[]]),
             joined(relay, table_of(relay, [[0]]), table_of(relay, [[]])) == table_of(relay, [[0], []])],
            [[([], [], [], []), ([], [1], [], []), ([0], [], [1], [0]), ([0], [1], [1], [0])], True])
        self.told(
            [is_table(relay, table_of(relay, [[0]])),
             is_table(relay, [([], [], [1], []), ([], [1], [], []), ([0], [], [1], [0]), ([0], [1], [1], [0])]),
             can_stand_for(relay, [[0]], [[0, 1]]), can_stand_for(relay, [[]], [[], []])],
            [True, False, True, True])
        self.told(
            [len(repeats(relay, [[]])[0]), len(repeats(relay, [[]])[1]),
             repeats(relay, [[]])[1][0] == table_of(relay, [[]])],
            [1, 1, True])

    def test_examples_of_far(self):
        relay = (2, [([0], 0, 1), ([0], 1, -1)])
        runs = [([], 10 ** 20), ([0], 1), ([], 10 ** 20)]
        self.told(
            [far_table(relay, runs) == table_of(relay, [[0], []]), far_light(relay, runs, 10 ** 20 - 2),
             far_light(relay, runs, 10 ** 20 - 1), far_light(relay, runs, 10 ** 20),
             far_light(relay, runs, 2 * 10 ** 20)],
            [False, [], [1], [0, 1], [0]])
        self.told(
            [times_lit(relay, runs, 0), times_lit(relay, runs, 1), first_lit(relay, runs, 1), last_lit(relay, runs, 1),
             first_lit(relay, [([], 5)], 0)],
            [100000000000000000001, 100000000000000000001, 99999999999999999999, 199999999999999999999, None])
        self.told(
            [far_dark_paper(relay, runs, 10 ** 20, 0), far_dark_paper(relay, runs, 10 ** 20 - 1, 0),
             far_dark_paper(relay, runs, 5, 1), is_far_dark(relay, runs, 5, 1, ([], [1])),
             is_far_dark(relay, runs, 5, 0, ([], [1]))],
            [None, ([], [1]), ([], []), False, True])

    def test_examples_of_rests(self):
        loop = (2, [([0], 1, 1), ([1], 0, 0), ([1], 1, -1)])
        self.told(
            [rest_table(loop, []), rest_table(loop, [[]]), rest_table(loop, [[0], []]),
             rest_ahead(loop, [0], rest_table(loop, [[]]))],
            [[([], []), ([1], [])], [([], []), ([1], [1])], [([], [1]), ([1], [1])], [([], [1]), ([1], [1])]])
        self.told(
            [front_table(loop, [[0]]), lit_between(loop, front_table(loop, [[0]]), [], rest_table(loop, [[]])),
             is_rest(loop, [([], [1]), ([1], [])]), is_front(loop, front_behind(loop, front_table(loop, []), [0]))],
            [[([], [1]), ([1], [1])], [0, 1], False, True])
        self.told(
            [settled(loop, [[]]), for_ever(loop, ([[0]], [[]])), for_ever_at(loop, ([], [[], []]), 10 ** 29),
             for_ever((1, [([], 0, 1)]), ([], [[]]))],
            [([([], []), ([1], [1])], 1), ([], [[0, 1]]), [], ([[]], [[0]])])

    def test_examples_of_endless(self):
        loop = (2, [([0], 1, 1), ([1], 0, 0), ([1], 1, -1)])
        self.told(
            [keeps_for_ever(loop, ([[0]], [[]]), ([], [[0, 1]])), keeps_for_ever(loop, ([[0]], [[]]), ([[0]], [[]])),
             stays_from(loop, ([[], [0]], [[]]), 2), stays_from(loop, ([], [[]]), 3)],
            [True, False, 1, 3])
        self.told(
            [changed(loop, [[]] * 4, 1, [0]), changed(loop, [[]] * 4, 3, [0]), added(loop, [[]] * 4, 3, [0]),
             reach_back(loop, [[]] * 4, 3, [0]), reach_back(loop, [[]] * 4, 1, [0])],
            [[0, 1, 2, 3], [3], [(3, [0])], 3, 0])

    def test_examples_of_houses_and_hands(self):
        back = ((2, [([0], 1, -1)]), [[], [0]], [(0, 1, [1]), (1, 0, [])])
        self.told(
            [is_house(back), is_walk(back, [0, 0, 1]), is_walk(back, [0, 2]), steps_between(back, 0, 1),
             pressed_by(back, [[0, 1], [0, 0, 0]])],
            [True, True, False, [[1]], [[], [0], []]])
        self.told(
            [hands_light(back, [[0, 1]]), open_steps(back, [[0, 1]], 0), first_shut(back, [[0, 1]]),
             opened_by(back, [[0, 1]], 0, 0), debts(back, [[0, 1]])],
            [[[1], [0]], [True], None, 2, [(0, 0, 2)]])
        self.told(
            [first_shut(back, [[0, 1, 0], [0, 0, 1, 1]]), greatest_playable(back, [[0, 0, 1], [0, 1]]),
             why_unplayable(back, [])],
            [None, [0, 1], []])
        self.told(
            [earned(back, [[0, 1]]), earned(back, [[0, 1], [1, 1]]), debts(back, [[0, 1], [1, 1]]), earned(back, [])],
            [[1], [2, 2], [(0, 0, 2)], []])
        still = ((2, [([0], 1, 1)]), [[], [0]], [(0, 1, [1]), (1, 0, [])])
        self.told(
            [first_shut(still, [[0, 0, 1]]), greatest_playable(still, [[0, 1], [1, 1]]),
             why_unplayable(still, [[0, 1], [1, 1], [0, 0, 1]]), put_off([[0, 1]], 2)],
            [(0, 1), [1], [[(0, 0)]], [[0, 0, 0, 1]]])
        self.told(
            [far_steps(back, [(0, 10 ** 29), (1, 2), (0, 1)]), far_steps(still, [(1, 3), (0, 2), (1, 1)]),
             are_stays(back, [(0, 0)])],
            [[True, True], [True, False], False])

    def test_examples_of_puzzles_and_counting(self):
        own = ((2, [([0], 1, -1)]), [[], [0]], [(0, 1, [1]), (1, 0, [])])
        self.told(
            [shortest_walk(own, 0, 1), shortest_walk(own, 0, 0), shortest_lighting(own, 0, 0),
             shortest_lighting(own, 0, 1)],
            [[0, 1], [0], [0, 1], None])
        self.told(state_of(own, [0, 1]), (1, [([], []), ([1], [])], [[], [1]]))
        far = (
            (3, [([0], 1, 1), ([1], 2, -1), ([2], 2, 0)]), [[0], [], [1]], [(0, 1, []), (1, 2, [2]), (2, 1, [])])
        self.told(
            [shortest_walk(far, 0, 2), how_many_walks(far, 0, 2, 3), walk_numbered(far, 0, 2, 3, 1),
             number_of_walk(far, [0, 1, 2, 2]), how_many_walks(far, 0, 2, 5)],
            [[0, 1, 2], 3, [0, 1, 1, 2], 2, 15])
        shut = ((1, []), [[], []], [(0, 1, [0])])
        self.told(
            [shortest_walk(shut, 0, 1), no_walk_paper(shut, 0, 1), is_no_walk_paper(shut, 0, 1, states_met(shut, 0)),
             no_walk_paper(shut, 0, 0)],
            [None, [(0, [([], [])], [[]])], True, None])

    def test_examples_of_beside_and_rescue(self):
        own = ((2, [([0], 1, -1)]), [[], [0]], [(0, 1, [1]), (1, 0, [])])
        shut = ((1, []), [[], []], [(0, 1, [0])])
        self.told(
            [shortest_beside(shut, [[0, 1]], 0, 0), shortest_beside(own, [[0, 1]], 0, 0),
             shortest_beside(own, [], 0, 1), how_many_beside(own, [[0, 1]], 0, 1, 2)],
            [None, [0], [0, 1], 2])
        back = (2, [([0], 1, -1)])
        self.told(
            [rescue(back, [[], []], [[], [0]], 0, 1), rescue(back, [[], []], [[], [0]], 1, 1),
             rescue(back, [[], [0]], [[]], 0, 1), settled_past(back, [[], []], [[], [0]]),
             settled_past(back, [[]], [[]])],
            [None, [[0]], [], 1, 1])

    def test_examples_of_reasons(self):
        both = (4, [([0, 1], 2, -1), ([3], 2, 0)])
        keyed = [[], [0, 1], [3]]
        self.told(
            [presses_in(both, keyed), with_only(both, keyed, [(1, 1)]), without(both, keyed, [(1, 1)])],
            [[(1, 0), (1, 1), (2, 3)], [[], [1], []], [[], [0], [3]]])
        self.told(
            [reasons(both, keyed, 0, 2), cuts(both, keyed, 0, 2), reasons(both, keyed, 1, 2), cuts(both, keyed, 1, 2),
             reasons(both, keyed, 2, 2)],
            [[[(1, 0), (1, 1)]], [[(1, 0)], [(1, 1)]], [], [[]], [[(2, 3)]]])
        self.told(
            [crossing([[(1, 0), (1, 1)], [(1, 0), (2, 3)]]), crossing([]), crossing([[]]),
             is_reason(both, keyed, 0, 2, [(1, 0)]), is_cut(both, keyed, 0, 2, [(1, 0)])],
            [[[(1, 0)], [(1, 1), (2, 3)]], [[]], [], False, True])
        self.told(
            [fewest_reason(both, keyed, 0, 2), fewest_cut(both, keyed, 0, 2), sure_presses(both, keyed, 0, 2),
             idle_presses(both, keyed, 0, 2), how_many_light(both, keyed, 0, 2)],
            [[(1, 0), (1, 1)], [(1, 0)], [(1, 0), (1, 1)], [(2, 3)], 2])
        self.told(
            [alone(both, 3, 2, 3), is_added(both, keyed), together(both, keyed), is_added(both, [[3], [3]])],
            [[[], [], [2, 3]], False, [(0, 2)], True])

    def test_examples_of_alike(self):
        back, ahead = (2, [([0], 1, -1)]), (2, [([0], 1, 1)])
        self.told(
            [are_alike(back, ahead, [[], [0]], [0]), parting(back, ahead, [[], [0]], [1]),
             is_parting(back, ahead, [[], [0]], [1], [[], [0]]), is_parting(back, ahead, [[], [0]], [1], [[0]])],
            [True, [[], [0]], True, False])
        self.told(
            [lighting(back, [[], [0]], 1), lighting(back, [[0]], 1), lighting(back, [[]], 1),
             without_doors((2, [([0], 1, -1), ([1], 0, 0)]), [0])],
            [[[], [0]], [[0], [0]], None, (2, [([1], 0, 0)])])
        twice = (3, [([0], 1, 0), ([0], 1, 0), ([1], 2, -1), ([2], 2, 0)])
        self.told(
            [idle_doors(twice, [[], [0]], [1, 2]), least_lots(twice, [[], [0]], [1, 2]),
             least_lots(twice, [[], [0]], [1]), is_enough(twice, [[], [0]], [2], [2])],
            [[0, 1, 3], [[0, 2], [1, 2]], [[0], [1]], False])


if __name__ == "__main__":
    unittest.main()
