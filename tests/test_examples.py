"""The examples of the document, each with just the result that stands there."""

import unittest

from tests.helpers import same
from timedoors.alike import are_alike, idle_doors, is_enough, is_parting, least_lots, lighting, parting, without_doors
from timedoors.beside import how_many_beside, shortest_beside
from timedoors.counting import how_many_walks, number_of_walk, walk_numbered
from timedoors.endless import added, changed, for_ever, for_ever_at, keeps_for_ever, reach_back, stays_from
from timedoors.far import far_dark_paper, far_light, far_table, first_lit, is_far_dark, last_lit, times_lit
from timedoors.founded import agreeing, all_founded, first_founded, founded_counts, founded_light, how_many_founded
from timedoors.founded import is_founded
from timedoors.hands import are_stays, debts, earned, far_steps, first_shut, greatest_playable, open_steps, opened_by
from timedoors.hands import put_off, why_unplayable
from timedoors.horizon import fewest_time_doors, hangs_ahead, horizon, unlike_ahead
from timedoors.houses import hands_light, is_house, is_walk, pressed_by, steps_between
from timedoors.layered import is_layered_history, layered_by, layered_endless, layered_history, swayed
from timedoors.layers import are_layers, dark_ring, is_dark_level, is_dark_ring, layers, with_darks
from timedoors.levels import are_endless, are_letters, are_presses, are_runs, both_pressed, how_many_ticks, is_door
from timedoors.levels import is_level, left_rooms, plain_endless, pressed_at, right_rooms, spread_out
from timedoors.light import common, gained, how_many_keep, keeps, light, lit_rounds
from timedoors.lines import good_part, of_recording, recording
from timedoors.longdoors import is_long_level, long_far_light, long_light, mirrored, near_level, reach_of, slowed
from timedoors.paradox import first_paradox, forced_by, founded_ticks, freed_by, is_paradox, least_paradox
from timedoors.play import Play, is_deed
from timedoors.puzzles import is_no_walk_paper, no_walk_paper, shortest_lighting, shortest_walk, state_of, states_met
from timedoors.reasons import alone, crossing, cuts, fewest_cut, fewest_reason, how_many_light, idle_presses, is_added
from timedoors.reasons import is_cut, is_reason, presses_in, reasons, sure_presses, together, with_only, without
from timedoors.rescue import rescue, settled_past
from timedoors.rests import front_behind, front_table, is_front, is_rest, lit_between, rest_ahead, rest_table, settled
from timedoors.seen import agreeing_with, agrees, best_looks, clash, crossed, fewest_looks, how_many_agree
from timedoors.seen import is_needed_look, looks_needed, open_lights, sure_lights, tells_apart, worth_looking
from timedoors.tables import can_stand_for, is_table, joined, repeats, table_of
from timedoors.texts import history_in, level_of_text, picture, presses_of_text, text_of_level, text_of_presses
from timedoors.trails import first_trail, givers, how_many_without, is_dark_paper, is_trail, sole_light, trail_depth


class Examples(unittest.TestCase):

    def told(self, got, wanted):
        self.assertEqual(got, wanted)
        self.assertTrue(same(got, wanted))

    def test_examples_of_levels(self):
        hall = (3, [([0, 1], 2, 0), ([2], 0, 1), ([], 1, -1)])
        self.told(
            [is_level(hall), is_level((0, [])), is_level((2, [([1, 0], 1, 0)])), is_level((2, [([], 2, 0)])),
             is_door(3, ([0], 0, -1)), is_door(3, ([0], 0, 2))],
            [True, False, False, False, True, False])
        self.told(
            [are_presses(hall, [[0], [], [1, 2]]), are_presses(hall, [[3]]), are_runs(hall, [([0], 10), ([], 0)]),
             are_endless(hall, ([], [[]])), are_endless(hall, ([], [])), are_letters(hall, [[], [0, 1], [2]])],
            [True, False, True, True, False, True])
        self.told(
            [right_rooms(hall), left_rooms(hall), both_pressed(hall, [[0], []], [[1], [], [0]]),
             spread_out(hall, [([0], 2), ([], 1)]), how_many_ticks(hall, [([0], 10 ** 20), ([], 1)])],
            [[0], [1], [[0, 1], [], [0]], [[0], [0], []], 100000000000000000001])
        self.told(
            [plain_endless(hall, ([[0], [1], [0]], [[1], [0], [1], [0]])),
             pressed_at(hall, ([[0]], [[1], []]), 10 ** 20)],
            [([], [[0], [1]]), []])

    def test_examples_of_texts(self):
        hall = (3, [([0, 1], 2, 0), ([2], 0, 1), ([], 1, -1)])
        self.told(
            [text_of_level(hall), text_of_level((1, [])), text_of_presses(hall, [[0, 2], [], [1]]),
             text_of_presses(hall, []), level_of_text("2: -<0 0.1>1"), presses_of_text(hall, "- 0.1")],
            ["3: 0.1=2 2>0 -<1", "1:", "0.2 - 1", "", (2, [([], 0, -1), ([0, 1], 1, 1)]), [[], [0, 1]]])
        self.told(
            [picture(hall, [[0], [], [0, 2]]), history_in(hall, ["#.#", "...", "..#"]), picture(hall, [])],
            [["#.#", "...", "..#"], [[0], [], [0, 2]], ["", "", ""]])

    def test_examples_of_light(self):
        back = (3, [([0], 1, 0), ([1], 2, -1), ([2], 2, -1)])
        self.told(
            [light(back, [[], [], [0]]), lit_rounds(back, [[], [], [0]]), gained(back, [[], [], []], [[], [], [0]])],
            [[[2], [2], [0, 1]], [[None, None, 3], [None, None, 2], [0, 1, None]], [(0, 2), (1, 2), (2, 0), (2, 1)]])
        self.told(
            [keeps(back, [[], [0]], [[2], [0, 1]]), keeps(back, [[], [0]], [[], [0, 1]]),
             how_many_keep((2, [([0], 1, 0)]), [[], []]), common((1, []), [[], []], [[0], []], [[0], [0]])],
            [True, False, 9, [[0], []]])

    def test_examples_of_trails(self):
        back = (3, [([0], 1, 0), ([1], 2, -1), ([2], 2, -1)])
        self.told(
            [first_trail(back, [[], [], [0]], 1, 2), trail_depth(back, [[], [], [0]], 0, 2),
             first_trail(back, [[], [], [0]], 0, 0)],
            [[(2, 0, ("press",)), (2, 1, ("door", 0)), (1, 2, ("door", 1))], 3, None])
        self.told(
            [is_trail(back, [[0]], 0, 1, [(0, 0, ("press",)), (0, 1, ("door", 0))]),
             is_trail(back, [[0]], 0, 1, [(0, 1, ("door", 0)), (0, 0, ("press",))]),
             is_trail((1, [([0], 0, 0)]), [[]], 0, 0, [(0, 0, ("door", 0))])],
            [True, False, False])
        self.told(
            [is_dark_paper(back, [[], [0]], 0, 0, [[2], [0, 1]]), is_dark_paper(back, [[], [0]], 0, 0, [[1, 2], [0, 1]]),
             how_many_without((2, [([0], 1, 0)]), [[]], 0, 1), givers(back, [[], [], [0]], 0, 2),
             sole_light(back, [[], [0]])],
            [True, True, 1, [2], [(0, 2), (1, 1)]])

    def test_examples_of_tables(self):
        back = (2, [([1], 0, 0), ([0], 1, -1)])
        self.told(
            [table_of(back, [[]]), table_of(back, [[0]]), table_of(back, [])],
            [[([], [], [], []), ([], [1], [1], [])], [([], [], [1], []), ([], [1], [1], [])],
             [([], [], [], []), ([], [1], [1], [])]])
        relay = (2, [([0], 0, 1), ([0], 1, -1)])
        self.told(
            [table_of(relay, [[]]),
             joined(relay, table_of(relay, [[0]]), table_of(relay, [[]])) == table_of(relay, [[0], []])],
            [[([], [], [], []), ([], [1], [], []), ([0], [], [1], [0]), ([0], [1], [1], [0])], True])
        self.told(
            [is_table(relay, table_of(relay, [[0]])),
             is_table(relay, [([], [], [1], []), ([], [1], [], []), ([0], [], [1], [0]), ([0], [1], [1], [0])]),
             can_stand_for(relay, [[0]], [[0, 1]]), can_stand_for(relay, [[]], [[], []])],
            [True, False, True, True])
        self.told(
            [len(repeats(relay, [[]])[0]), len(repeats(relay, [[]])[1]),
             repeats(relay, [[]])[1][0] == table_of(relay, [[]])],
            [1, 1, True])

    def test_examples_of_far(self):
        relay = (2, [([0], 0, 1), ([0], 1, -1)])
        runs = [([], 10 ** 20), ([0], 1), ([], 10 ** 20)]
        self.told(
            [far_table(relay, runs) == table_of(relay, [[0], []]), far_light(relay, runs, 10 ** 20 - 2),
             far_light(relay, runs, 10 ** 20 - 1), far_light(relay, runs, 10 ** 20),
             far_light(relay, runs, 2 * 10 ** 20)],
            [False, [], [1], [0, 1], [0]])
        self.told(
            [times_lit(relay, runs, 0), times_lit(relay, runs, 1), first_lit(relay, runs, 1), last_lit(relay, runs, 1),
             first_lit(relay, [([], 5)], 0)],
            [100000000000000000001, 100000000000000000001, 99999999999999999999, 199999999999999999999, None])
        self.told(
            [far_dark_paper(relay, runs, 10 ** 20, 0), far_dark_paper(relay, runs, 10 ** 20 - 1, 0),
             far_dark_paper(relay, runs, 5, 1), is_far_dark(relay, runs, 5, 1, ([], [1])),
             is_far_dark(relay, runs, 5, 0, ([], [1]))],
            [None, ([], [1]), ([], []), False, True])

    def test_examples_of_rests(self):
        loop = (2, [([0], 1, 1), ([1], 0, 0), ([1], 1, -1)])
        self.told(
            [rest_table(loop, []), rest_table(loop, [[]]), rest_table(loop, [[0], []]),
             rest_ahead(loop, [0], rest_table(loop, [[]]))],
            [[([], []), ([1], [])], [([], []), ([1], [1])], [([], [1]), ([1], [1])], [([], [1]), ([1], [1])]])
        self.told(
            [front_table(loop, [[0]]), lit_between(loop, front_table(loop, [[0]]), [], rest_table(loop, [[]])),
             is_rest(loop, [([], [1]), ([1], [])]), is_front(loop, front_behind(loop, front_table(loop, []), [0]))],
            [[([], [1]), ([1], [1])], [0, 1], False, True])
        self.told(
            [settled(loop, [[]]), for_ever(loop, ([[0]], [[]])), for_ever_at(loop, ([], [[], []]), 10 ** 29),
             for_ever((1, [([], 0, 1)]), ([], [[]]))],
            [([([], []), ([1], [1])], 1), ([], [[0, 1]]), [], ([[]], [[0]])])

    def test_examples_of_endless(self):
        loop = (2, [([0], 1, 1), ([1], 0, 0), ([1], 1, -1)])
        self.told(
            [keeps_for_ever(loop, ([[0]], [[]]), ([], [[0, 1]])), keeps_for_ever(loop, ([[0]], [[]]), ([[0]], [[]])),
             stays_from(loop, ([[], [0]], [[]]), 2), stays_from(loop, ([], [[]]), 3)],
            [True, False, 1, 3])
        self.told(
            [changed(loop, [[]] * 4, 1, [0]), changed(loop, [[]] * 4, 3, [0]), added(loop, [[]] * 4, 3, [0]),
             reach_back(loop, [[]] * 4, 3, [0]), reach_back(loop, [[]] * 4, 1, [0])],
            [[0, 1, 2, 3], [3], [(3, [0])], 3, 0])

    def test_examples_of_houses_and_hands(self):
        back = ((2, [([0], 1, -1)]), [[], [0]], [(0, 1, [1]), (1, 0, [])])
        self.told(
            [is_house(back), is_walk(back, [0, 0, 1]), is_walk(back, [0, 2]), steps_between(back, 0, 1),
             pressed_by(back, [[0, 1], [0, 0, 0]])],
            [True, True, False, [[1]], [[], [0], []]])
        self.told(
            [hands_light(back, [[0, 1]]), open_steps(back, [[0, 1]], 0), first_shut(back, [[0, 1]]),
             opened_by(back, [[0, 1]], 0, 0), debts(back, [[0, 1]])],
            [[[1], [0]], [True], None, 2, [(0, 0, 2)]])
        self.told(
            [first_shut(back, [[0, 1, 0], [0, 0, 1, 1]]), greatest_playable(back, [[0, 0, 1], [0, 1]]),
             why_unplayable(back, [])],
            [None, [0, 1], []])
        self.told(
            [earned(back, [[0, 1]]), earned(back, [[0, 1], [1, 1]]), debts(back, [[0, 1], [1, 1]]), earned(back, [])],
            [[1], [2, 2], [(0, 0, 2)], []])
        still = ((2, [([0], 1, 1)]), [[], [0]], [(0, 1, [1]), (1, 0, [])])
        self.told(
            [first_shut(still, [[0, 0, 1]]), greatest_playable(still, [[0, 1], [1, 1]]),
             why_unplayable(still, [[0, 1], [1, 1], [0, 0, 1]]), put_off([[0, 1]], 2)],
            [(0, 1), [1], [[(0, 0)]], [[0, 0, 0, 1]]])
        self.told(
            [far_steps(back, [(0, 10 ** 29), (1, 2), (0, 1)]), far_steps(still, [(1, 3), (0, 2), (1, 1)]),
             are_stays(back, [(0, 0)])],
            [[True, True], [True, False], False])

    def test_examples_of_puzzles_and_counting(self):
        own = ((2, [([0], 1, -1)]), [[], [0]], [(0, 1, [1]), (1, 0, [])])
        self.told(
            [shortest_walk(own, 0, 1), shortest_walk(own, 0, 0), shortest_lighting(own, 0, 0),
             shortest_lighting(own, 0, 1)],
            [[0, 1], [0], [0, 1], None])
        self.told(state_of(own, [0, 1]), (1, [([], []), ([1], [])], [[], [1]]))
        far = (
            (3, [([0], 1, 1), ([1], 2, -1), ([2], 2, 0)]), [[0], [], [1]], [(0, 1, []), (1, 2, [2]), (2, 1, [])])
        self.told(
            [shortest_walk(far, 0, 2), how_many_walks(far, 0, 2, 3), walk_numbered(far, 0, 2, 3, 1),
             number_of_walk(far, [0, 1, 2, 2]), how_many_walks(far, 0, 2, 5)],
            [[0, 1, 2], 3, [0, 1, 1, 2], 2, 15])
        shut = ((1, []), [[], []], [(0, 1, [0])])
        self.told(
            [shortest_walk(shut, 0, 1), no_walk_paper(shut, 0, 1), is_no_walk_paper(shut, 0, 1, states_met(shut, 0)),
             no_walk_paper(shut, 0, 0)],
            [None, [(0, [([], [])], [[]])], True, None])

    def test_examples_of_beside_and_rescue(self):
        own = ((2, [([0], 1, -1)]), [[], [0]], [(0, 1, [1]), (1, 0, [])])
        shut = ((1, []), [[], []], [(0, 1, [0])])
        self.told(
            [shortest_beside(shut, [[0, 1]], 0, 0), shortest_beside(own, [[0, 1]], 0, 0),
             shortest_beside(own, [], 0, 1), how_many_beside(own, [[0, 1]], 0, 1, 2)],
            [None, [0], [0, 1], 2])
        back = (2, [([0], 1, -1)])
        self.told(
            [rescue(back, [[], []], [[], [0]], 0, 1), rescue(back, [[], []], [[], [0]], 1, 1),
             rescue(back, [[], [0]], [[]], 0, 1), settled_past(back, [[], []], [[], [0]]),
             settled_past(back, [[]], [[]])],
            [None, [[0]], [], 1, 1])

    def test_examples_of_reasons(self):
        both = (4, [([0, 1], 2, -1), ([3], 2, 0)])
        keyed = [[], [0, 1], [3]]
        self.told(
            [presses_in(both, keyed), with_only(both, keyed, [(1, 1)]), without(both, keyed, [(1, 1)])],
            [[(1, 0), (1, 1), (2, 3)], [[], [1], []], [[], [0], [3]]])
        self.told(
            [reasons(both, keyed, 0, 2), cuts(both, keyed, 0, 2), reasons(both, keyed, 1, 2), cuts(both, keyed, 1, 2),
             reasons(both, keyed, 2, 2)],
            [[[(1, 0), (1, 1)]], [[(1, 0)], [(1, 1)]], [], [[]], [[(2, 3)]]])
        self.told(
            [crossing([[(1, 0), (1, 1)], [(1, 0), (2, 3)]]), crossing([]), crossing([[]]),
             is_reason(both, keyed, 0, 2, [(1, 0)]), is_cut(both, keyed, 0, 2, [(1, 0)])],
            [[[(1, 0)], [(1, 1), (2, 3)]], [[]], [], False, True])
        self.told(
            [fewest_reason(both, keyed, 0, 2), fewest_cut(both, keyed, 0, 2), sure_presses(both, keyed, 0, 2),
             idle_presses(both, keyed, 0, 2), how_many_light(both, keyed, 0, 2)],
            [[(1, 0), (1, 1)], [(1, 0)], [(1, 0), (1, 1)], [(2, 3)], 2])
        self.told(
            [alone(both, 3, 2, 3), is_added(both, keyed), together(both, keyed), is_added(both, [[3], [3]])],
            [[[], [], [2, 3]], False, [(0, 2)], True])

    def test_examples_of_alike(self):
        back, ahead = (2, [([0], 1, -1)]), (2, [([0], 1, 1)])
        self.told(
            [are_alike(back, ahead, [[], [0]], [0]), parting(back, ahead, [[], [0]], [1]),
             is_parting(back, ahead, [[], [0]], [1], [[], [0]]), is_parting(back, ahead, [[], [0]], [1], [[0]])],
            [True, [[], [0]], True, False])
        self.told(
            [lighting(back, [[], [0]], 1), lighting(back, [[0]], 1), lighting(back, [[]], 1),
             without_doors((2, [([0], 1, -1), ([1], 0, 0)]), [0])],
            [[[], [0]], [[0], [0]], None, (2, [([1], 0, 0)])])
        twice = (3, [([0], 1, 0), ([0], 1, 0), ([1], 2, -1), ([2], 2, 0)])
        self.told(
            [idle_doors(twice, [[], [0]], [1, 2]), least_lots(twice, [[], [0]], [1, 2]),
             least_lots(twice, [[], [0]], [1]), is_enough(twice, [[], [0]], [2], [2])],
            [[0, 1, 3], [[0, 2], [1, 2]], [[0], [1]], False])


    def test_examples_of_horizon(self):
        back = (2, [([0], 1, -1)])
        twice = (3, [([0], 1, 0), ([0], 1, 0), ([1], 2, -1), ([2], 2, 0)])
        self.told(fewest_time_doors(twice, [[], [0]], [1, 2]), [2])
        self.told(
            [hangs_ahead(twice, [[], [0]], [1]), hangs_ahead(twice, [[], [0]], [1, 2]), hangs_ahead(back, [[0]], [1]),
             fewest_time_doors(twice, [[], [0]], [1])],
            [False, True, False, []])
        turning, forth = (3, [([0], 1, -1), ([1], 2, -1), ([1], 1, -1)]), (3, [([0], 1, -1), ([1], 2, 1)])
        self.told(
            [horizon((3, [([0], 1, -1), ([1], 2, -1)]), [[], [0]], [2]), horizon(turning, [[], [0]], [2]),
             horizon(forth, [[], [0]], [2]), fewest_time_doors(forth, [[], [0]], [2]),
             unlike_ahead(forth, [[], [0]], [2], 0)],
            [2, None, 0, [0], None])

    def test_examples_of_longdoors(self):
        far = (2, [([0], 1, 3), ([1], 0, -2)])
        self.told(
            [is_long_level(far), is_level(far), is_long_level((1, [([], 0, 10)])), long_light(far, [[0], [], [], [], []]),
             long_light(far, [[], [], [], [1], []])],
            [True, False, False, [[0], [0], [0], [1], [1]], [[], [0], [0], [1], [1]]])
        self.told(near_level(far), (5, [([0], 2, 1), ([2], 3, 1), ([3], 1, 1), ([1], 4, -1), ([4], 0, -1)]))
        self.told(
            near_level((2, [([0], 1, 2), ([], 0, 0), ([0], 0, 3)])),
            (4, [([], 0, 0), ([0], 2, 1), ([2], 3, 1), ([2], 1, 1), ([3], 0, 1)]))
        self.told(
            [slowed((2, [([0], 1, 1), ([1], 0, 0)]), 3), mirrored(far), mirrored(mirrored(far)) == far, slowed(far, 2)],
            [(2, [([0], 1, 3), ([1], 0, 0)]), (2, [([0], 1, -3), ([1], 0, 2)]), True, (2, [([0], 1, 6), ([1], 0, -4)])])
        self.told(
            [long_far_light(far, [([], 10 ** 20), ([1], 1), ([], 9)], 10 ** 20 - 2),
             reach_of(far, [([], 10 ** 20), ([1], 1), ([], 9)], 1), reach_of(far, [([], 4)], 0)],
            [[0], (100000000000000000000, 100000000000000000009), None])

    def test_examples_of_layers(self):
        night = (3, [([0], [], 1, 1), ([], [1], 2, -1)])
        self.told(
            [is_dark_level(night), is_dark_level((3, [([0], 1, 1)])), with_darks((2, [([0], 1, -1)])), layers(night),
             are_layers(night, [3, 3, 5]), are_layers(night, [0, 1, 1])],
            [True, False, (2, [([0], [], 1, -1)]), [0, 0, 1], True, False])
        self.told(
            [layered_history(night, [[0], [], []]), layered_by(night, [2, 2, 4], [[0], []]),
             is_layered_history(night, [[0], [], []], [[0], [1, 2], []]), layered_endless(night, ([[0]], [[]]))],
            [[[0], [1, 2], []], [[0], [1]], True, ([[0], [1, 2]], [[2]])])
        cheat = (2, [([0], [], 1, 1), ([], [1], 0, -1)])
        self.told(
            [layers(cheat), dark_ring(cheat), is_dark_ring(cheat, [1, 0]), dark_ring(night), swayed(night, 0, 2),
             swayed(night, 2, 0), swayed(night, 1, 1)],
            [None, [0, 1], False, None, (False, True), (False, False), (True, False)])

    def test_examples_of_founded_and_paradox(self):
        cheated, either = (1, [([], [0], 0, 0)]), (2, [([], [0], 1, 0), ([], [1], 0, 0)])
        turned = (2, [([], [0], 1, 1), ([1], [], 0, -1)])
        self.told(
            [is_founded(either, [[]], [[0]]), is_founded(either, [[]], [[0, 1]]), is_founded(cheated, [[]], [[0]]),
             founded_light(cheated, [[]], [[0]]), is_founded(cheated, [[0]], [[0]])],
            [True, False, False, [[]], True])
        self.told(
            [first_founded(either, [[], []]), all_founded(either, [[], [1]]), first_founded(cheated, [[]]),
             how_many_founded(either, [[]] * 30), founded_counts(either, [[], [0]], 4)],
            [[[0], [0]], [[[0], [1]], [[1], [1]]], None, 1073741824, [1, 2, 2, 4, 4]])
        self.told(
            [agreeing(either, [[], [1]]), agreeing(cheated, [[]]), is_paradox(turned, [[]]), is_paradox(turned, [[], []]),
             first_paradox(turned, [[], [0]])],
            [([[], [1]], [[0, 1], [1]]), None, False, True, [[], []]])
        self.told(
            [founded_ticks(turned, [[]]), least_paradox(turned, [[]]), least_paradox(turned, [[0]]),
             founded_ticks(cheated, [[0], []]), first_paradox(either, [[], [0, 1]])],
            [([True, True], [False]), 2, None, ([True, True], [False]), None])
        self.told(
            [forced_by(cheated, [[0], [0]]), freed_by(turned, [[], []]), freed_by(cheated, [[], [0]])],
            [[], [(0, 0), (1, 1)], [(0, 0)]])

    def test_examples_of_seen(self):
        either, two = (2, [([], [0], 1, 0), ([], [1], 0, 0)]), [[], []]
        self.told(
            [how_many_agree(either, two, []), agreeing_with(either, two, [(0, 0, True)]),
             agrees(either, two, [(0, 0, True)], [[1], [0]])],
            [4, [[[0], [0]], [[0], [1]]], False])
        self.told(
            [sure_lights(either, two, [(0, 0, True)]), open_lights(either, two, [(0, 0, True)]),
             worth_looking(either, two, [(0, 0, True)]), best_looks(either, two, []), looks_needed(either, two, [])],
            [[[0], []], [[0], [0, 1]], [(1, 0), (1, 1)], [(0, 0), (0, 1), (1, 0), (1, 1)], 2])
        self.told(
            [tells_apart(either, two, [(0, 0), (1, 1)]), fewest_looks(either, two),
             is_needed_look(either, two, [(0, 0), (0, 1), (1, 0)], 0, 0),
             is_needed_look(either, two, [(0, 0), (0, 1), (1, 0)], 1, 0)],
            [True, [(0, 0), (1, 0)], False, True])
        self.told(
            [clash(either, two, [(0, 0, True), (0, 1, True), (1, 0, False)]), clash(either, two, [(1, 0, False)]),
             clash((1, [([], [0], 0, 0)]), [[]], [])],
            [[(0, 0, True), (0, 1, True)], None, []])

    def test_examples_of_crossed(self):
        turns = (3, [([], [1], 2, 0), ([], [2], 1, 0), ([1], [], 0, 1), ([2], [], 0, -1)])
        first, second = [[1], [0, 1], [0, 1]], [[2], [0, 1], [0, 2]]
        self.told(
            [crossed(turns, [[], [], []], second, first, 1), crossed(turns, [[], [], []], first, first, 1),
             crossed((2, [([], [0], 1, 0), ([], [1], 0, 0)]), [[], []], [[0], [0]], [[1], [1]], 0)],
            [None, [[1], [0, 1], [0, 1]], [[0], [1]]])

    def test_examples_of_lines_and_play(self):
        hall = (3, [([0, 1], 2, 0), ([2], 0, 1), ([0], 1, -1)])
        self.told(
            [recording(hall, [[0], []]), of_recording("1:\n0\n"), good_part("1:\n0\n-\n0"), good_part("1:"),
             good_part("1:\n1\n")],
            ["3: 0.1=2 2>0 0<1\n0\n-\n", ((1, []), [[0]]), ((1, []), [[0], []], 7), (None, [], 0), ((1, []), [], 3)])
        play = Play(hall)
        play.do(("tick", [0]))
        play.do(("tick", []))
        self.told(
            [play.shown(), play.otherwise(("press", 1, [0])), is_deed(play, ("press", 0, [0])), is_deed(play, ("cut", 2)),
             is_deed(play, ("lift", 0, []))],
            [[[0], []], [(0, 1), (0, 2), (1, 0)], False, False, False])
        play.do(("press", 1, [0]))
        self.told(
            [play.shown(), play.presses(), play.shown_at(0), play.seen_now()],
            [[[0, 1, 2], [0]], [[0], [0]], [0, 1, 2], [[0], []]])
        play.do(("read", "3: 0.1=2 2>0 0<1\n0\n"))
        self.told(
            [play.shown(), play.otherwise(("cut", 1)), play.undo(), len(play.log()), play == play.copy()],
            [[[0, 1, 2], [0, 1, 2], [0]], [(0, 1), (0, 2), (1, 0), (1, 1), (1, 2), (2, 0)], None, 3, True])
        self.told(
            [play.told(), play.redo(), play.level() == hall], ["3: 0.1=2 2>0 0<1\n0\n0\n", None, True])


if __name__ == "__main__":
    unittest.main()
