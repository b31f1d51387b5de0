"""[2], [3], [5]: what holds of every function: refusals and their order, names of arguments, new lists.

Each row of CALLS tells a function with, for each parameter, its name, a value that it takes, wrong values and the
error that refuses them; a parameter without an error takes any value.
"""

import copy
import itertools
import unittest

from tests import wrong
from tests.calls import CALLS_OF_STAGE_3, CALLS_OF_STAGE_4
from tests.calls_of_darks import CALLS_OF_STAGE_5, CALLS_OF_STAGE_6
from tests.helpers import BACK, HALL, RELAY, lists_in, odd_values, same
from tests.wrong import ANY
from timedoors import alike, beside, counting, endless, errors, far, founded, hands, horizon, houses, layered, layers
from timedoors import levels, light, lines, longdoors, paradox, play, puzzles, reasons, rescue, rests, seen, tables
from timedoors import texts, trails

KEYED = [[], [0, 1], [0]]
RUNS = [([], 10 ** 20), ([0], 1), ([1], 3)]
TABLE = tables.table_of(RELAY, [[0]])
REST = rests.rest_table(RELAY, [[0]])
FRONT = rests.front_table(RELAY, [[0]])

LEVEL = ("level", BACK, wrong.LEVELS, errors.InvalidLevel)
PRESSES = ("presses", KEYED, wrong.PRESSES, errors.InvalidPresses)
TICK = ("tick", 1, wrong.TICKS, errors.InvalidNumber)
ROOM = ("room", 2, wrong.ROOMS, errors.InvalidRoom)
RUNNING = ("runs", RUNS, wrong.RUNS, errors.InvalidRuns)
FAR_TICK = ("tick", 10 ** 20, wrong.COUNTS + [10 ** 20 + 4, 10 ** 29], errors.InvalidNumber)
ENDLESS = ("endless", ([[0]], [[], [1], [], [1]]), wrong.ENDLESS, errors.InvalidPresses)

RELAYED = ("level", RELAY, wrong.LEVELS, errors.InvalidLevel)
RELAY_LIGHTS = ("lights", [1], wrong.LIGHTS + [[2]], errors.InvalidLights)
RELAY_PRESSES = ("presses", [[0], []], wrong.PRESSES + [[[2]]], errors.InvalidPresses)

WRONG_ROWS = [
    None, 0, "", (), {}, [], [[]], [None, None], tuple(REST), REST[:1], REST + REST, REST[::-1], [list(x) for x in REST],
    [([], []), ([0], [0])], [([], []), ([0], [True])], [([], []), ([0], [1, 1])], [([], []), ([0], [2])],
    [([], []), ([1], [0])], [([], []), ([False], [1])], [([], [1]), ([0], [])], [([], []), ([0], ())],
    [([], []), ((0,), [1])], [([], []), ([0], [1], [])], [([], []), ([0],)], [([], None), ([0], [1])],
]
WRONG_RESTS = WRONG_ROWS + [FRONT]
WRONG_FRONTS = [
    None, 0, "", (), {}, [], [[]], tuple(FRONT), FRONT[:1], FRONT + FRONT, FRONT[::-1], [list(x) for x in FRONT], REST,
    [([], [0]), ([1], [])], [([], []), ([1], [1])], [([], []), ([1], [False])], [([], []), ([True], [0])],
    [([], []), ([1], [0, 0])], [([], []), ([1], None)], [([], []), ([1], (0,))],
]
WRONG_TABLES = [
    None, 0, "", (), {}, [], [[]], tuple(TABLE), TABLE[:3], TABLE + TABLE[:1], TABLE[::-1], [list(x) for x in TABLE],
    REST, FRONT,
    [([], [], [1], []), ([], [1], [], []), ([0], [], [1], [0]), ([0], [1], [1], [0])],
    [([], [], [], [0]), ([], [1], [], []), ([0], [], [1], [0]), ([0], [1], [1], [0])],
    [([], [], [], [0]), ([], [1], [], [0]), ([0], [], [1], []), ([0], [1], [1], [0])],
    [([], [], [0], []), ([], [1], [0], []), ([0], [], [0], [0]), ([0], [1], [0], [0])],
    [([], [], [], []), ([], [1], [], [1]), ([0], [], [1], [0]), ([0], [1], [1], [1])],
    [([], [], [], []), ([], [True], [], []), ([0], [], [1], [0]), ([0], [1], [1], [0])],
    [([], [], [], []), ([], [1], [], []), ([False], [], [1], [0]), ([0], [1], [1], [0])],
    [([], [], [], []), ([], [1], [], []), ([0], [], [True], [0]), ([0], [1], [1], [0])],
    [([], [], [], []), ([], [1], [], []), ([0], [], [1], [0]), ([0], [1], [1], [0, 0])],
    [([], [], [], []), ([], [1], [], []), ([0], [], [1], [0]), ([0], [1], [1])],
    [([], [], [], []), ([], [1], [], []), ([0], [], [1], [0]), ([0], [1], [1], None)],
    [([], [], [], []), ([0], [], [1], [0]), ([], [1], [], []), ([0], [1], [1], [0])],
]

CALLS = [
    (levels.is_level, [ANY]),
    (levels.is_door, [("rooms", 3, wrong.COUNTS + [0], errors.InvalidNumber), ANY]),
    (levels.are_presses, [LEVEL, ANY]),
    (levels.are_runs, [LEVEL, ANY]),
    (levels.are_endless, [LEVEL, ANY]),
    (levels.are_letters, [LEVEL, ANY]),
    (levels.right_rooms, [LEVEL]),
    (levels.left_rooms, [LEVEL]),
    (levels.both_pressed, [LEVEL, PRESSES, ("more", [[2], [], [], [1]], wrong.PRESSES, errors.InvalidPresses)]),
    (levels.spread_out, [LEVEL, ("runs", [([0, 1], 3), ([], 2)], wrong.RUNS, errors.InvalidRuns)]),
    (levels.how_many_ticks, [LEVEL, RUNNING]),
    (levels.plain_endless, [LEVEL, ENDLESS]),
    (levels.pressed_at, [LEVEL, ENDLESS, ("tick", 10 ** 29, wrong.COUNTS, errors.InvalidNumber)]),
    (texts.text_of_level, [LEVEL]),
    (texts.level_of_text, [("text", "3: 0.1=2 2>0 -<1", wrong.TEXTS, errors.InvalidText)]),
    (texts.text_of_presses, [LEVEL, PRESSES]),
    (texts.presses_of_text, [LEVEL, ("text", "0.2 - 1", wrong.PRESS_TEXTS, errors.InvalidText)]),
    (texts.picture, [LEVEL, ("history", KEYED, wrong.PRESSES, errors.InvalidHistory)]),
    (texts.history_in, [LEVEL, ("lines", ["#.#", "...", "..#"], wrong.PICTURES, errors.InvalidText)]),
    (light.light, [LEVEL, PRESSES]),
    (light.keeps, [LEVEL, PRESSES, ANY]),
    (light.common, [
        LEVEL, PRESSES,
        ("one", [[2], [0, 1, 2], [0, 1]], wrong.PRESSES + [[], KEYED, [[2], [0, 1]]], errors.InvalidHistory),
        ("other", [[0, 1, 2]] * 3, wrong.PRESSES + [[], KEYED, [[0, 1, 2]] * 4], errors.InvalidHistory)]),
    (light.how_many_keep, [LEVEL, PRESSES]),
    (light.lit_rounds, [LEVEL, PRESSES]),
    (light.gained, [LEVEL, PRESSES, ("more", [[], [], [2]], wrong.PRESSES + [[], [[]] * 2, [[]] * 4],
                                     errors.InvalidPresses)]),
    (trails.is_trail, [LEVEL, PRESSES, TICK, ROOM, ANY]),
    (trails.first_trail, [LEVEL, PRESSES, TICK, ROOM]),
    (trails.trail_depth, [LEVEL, PRESSES, TICK, ROOM]),
    (trails.is_dark_paper, [LEVEL, PRESSES, TICK, ROOM, ANY]),
    (trails.how_many_without, [LEVEL, PRESSES, TICK, ROOM]),
    (trails.givers, [LEVEL, PRESSES, TICK, ROOM]),
    (trails.sole_light, [LEVEL, PRESSES]),
    (tables.is_table, [RELAYED, ANY]),
    (tables.table_of, [RELAYED, RELAY_PRESSES]),
    (tables.joined, [RELAYED, ("one", TABLE, WRONG_TABLES, errors.InvalidTable),
                     ("other", TABLE, WRONG_TABLES, errors.InvalidTable)]),
    (tables.repeats, [RELAYED, RELAY_PRESSES]),
    (tables.can_stand_for, [RELAYED, ("one", [[0]], wrong.PRESSES + [[[2]]], errors.InvalidPresses),
                            ("other", [[0, 1]], wrong.PRESSES + [[[2]]], errors.InvalidPresses)]),
    (far.far_table, [LEVEL, RUNNING]),
    (far.far_light, [LEVEL, RUNNING, FAR_TICK]),
    (far.times_lit, [LEVEL, RUNNING, ROOM]),
    (far.first_lit, [LEVEL, RUNNING, ROOM]),
    (far.last_lit, [LEVEL, RUNNING, ROOM]),
    (far.far_dark_paper, [LEVEL, RUNNING, FAR_TICK, ROOM]),
    (far.is_far_dark, [LEVEL, RUNNING, FAR_TICK, ROOM, ANY]),
    (rests.rest_table, [RELAYED, RELAY_PRESSES]),
    (rests.is_rest, [RELAYED, ANY]),
    (rests.rest_ahead, [RELAYED, RELAY_LIGHTS, ("rest", REST, WRONG_RESTS, errors.InvalidTable)]),
    (rests.front_table, [RELAYED, RELAY_PRESSES]),
    (rests.is_front, [RELAYED, ANY]),
    (rests.front_behind, [RELAYED, ("front", FRONT, WRONG_FRONTS, errors.InvalidTable), RELAY_LIGHTS]),
    (rests.lit_between, [RELAYED, ("front", FRONT, WRONG_FRONTS, errors.InvalidTable), RELAY_LIGHTS,
                         ("rest", REST, WRONG_RESTS, errors.InvalidTable)]),
    (rests.settled, [RELAYED, ("presses", [[0], []], wrong.PRESSES + [[], [[2]]], errors.InvalidPresses)]),
] + CALLS_OF_STAGE_3 + CALLS_OF_STAGE_4 + CALLS_OF_STAGE_5 + CALLS_OF_STAGE_6


def good_values(parameters):
    return [copy.deepcopy(good) for _, good, _, _ in parameters]


class Calls(unittest.TestCase):

    def each_call(self, check):
        for function, parameters in CALLS:
            with self.subTest(function=function.__name__):
                check(function, parameters)

    def refused(self, function, values, error, told):
        with self.assertRaises(error) as caught:
            function(*values)
        self.assertIs(type(caught.exception), error)
        self.assertIs(caught.exception.value, told)

    def test_2_wrong_arguments_are_refused_with_themselves(self):
        def check(function, parameters):
            for at, (name, _, wrongs, error) in enumerate(parameters):
                for bad in wrongs:
                    with self.subTest(parameter=name, bad=bad):
                        values = good_values(parameters)
                        values[at] = bad
                        self.refused(function, values, error, bad)
        self.each_call(check)

    def test_2_of_two_wrong_arguments_the_one_ahead_is_told(self):
        def check(function, parameters):
            told = [at for at, parameter in enumerate(parameters) if parameter[3] is not None]
            for one, other in itertools.combinations(told, 2):
                with self.subTest(one=parameters[one][0], other=parameters[other][0]):
                    values = good_values(parameters)
                    values[one], values[other] = parameters[one][2][1], parameters[other][2][0]
                    self.refused(function, values, parameters[one][3], values[one])
        self.each_call(check)

    def test_2_other_arguments_are_checked_ahead_of_any_value(self):
        def check(function, parameters):
            for at, (_, _, wrongs, error) in enumerate(parameters[:-1]):
                for value in odd_values() if parameters[-1] is ANY else []:
                    values = good_values(parameters[:-1]) + [value]
                    values[at] = wrongs[0]
                    self.refused(function, values, error, wrongs[0])
        self.each_call(check)

    def test_2_any_value_is_judged_by_true_or_false(self):
        values = odd_values() + wrong.PRESSES + wrong.LEVELS + WRONG_TABLES + wrong.RUNS + wrong.ENDLESS + wrong.LETTERS
        values += wrong.HOUSES + wrong.WALK + wrong.STAYS + wrong.LOTS + wrong.LOT + wrong.NUMBERS + wrong.LONG_LEVELS
        values += wrong.DARK_LEVELS + wrong.RINGS + wrong.COUNTS_OF_LAYERS + wrong.LOOKS + wrong.SEEN + wrong.RECORDINGS

        def check(function, parameters):
            for value in values if parameters[-1] is ANY else []:
                self.assertIs(type(function(*good_values(parameters[:-1]), value)), bool)
        self.each_call(check)

    def test_1_arguments_go_by_name_too(self):
        def check(function, parameters):
            names = [name for name, _, _, _ in parameters]
            by_place = function(*good_values(parameters))
            self.assertTrue(same(function(**dict(zip(names, good_values(parameters)))), by_place))
            backwards = list(zip(names, good_values(parameters)))[::-1]
            self.assertTrue(same(function(**dict(backwards)), by_place))
        self.each_call(check)

    def test_2_arguments_stay_as_they_were(self):
        def check(function, parameters):
            values = good_values(parameters)
            function(*values)
            self.assertTrue(same(values, good_values(parameters)))
        self.each_call(check)

    def test_2_a_refusal_changes_nothing(self):
        def check(function, parameters):
            for at, (_, _, wrongs, error) in enumerate(parameters):
                if error is not None:
                    values = good_values(parameters)
                    values[at] = copy.deepcopy(wrongs[-1])
                    self.refused(function, values, error, values[at])
                    self.assertTrue(same(values[at], wrongs[-1]))
                    self.assertTrue(same(values[:at] + values[at + 1:],
                                         [good for _, good, _, _ in parameters[:at] + parameters[at + 1:]]))
        self.each_call(check)

    def test_2_told_lists_are_new_and_stand_once(self):
        def check(function, parameters):
            values = good_values(parameters)
            first, second = function(*values), function(*values)
            self.assertTrue(same(first, second))
            told = lists_in(first) + lists_in(second)
            ids = {id(part) for part in told}
            self.assertEqual(len(ids), len(told))
            self.assertFalse(ids & {id(part) for value in values for part in lists_in(value)})
        self.each_call(check)

    def test_2_changing_a_result_changes_no_later_one(self):
        def check(function, parameters):
            first = function(*good_values(parameters))
            kept = copy.deepcopy(first)
            for part in lists_in(first):
                part.append("spoilt")
            self.assertTrue(same(function(*good_values(parameters)), kept))
        self.each_call(check)

    def test_3_errors_are_told_beyond_the_limits(self):
        rooms = 10 ** 29
        # No room is room 2, of which the dark level needs that it is dark: so this one has layers.
        level = (rooms, [([room], room + 1, shift) for room in range(3, 40) for shift in (-1, 0, 1)])

        def check(function, parameters):
            for at, (_, _, _, error) in enumerate(parameters):
                ahead = [name for name, _, _, _ in parameters[:at]]
                tables_ahead = [name for name in ahead if name in ("front", "rest", "one", "counts")]
                if ahead[:1] in (["level"], ["house"]) and error is not None and not tables_ahead:
                    values = good_values(parameters)
                    is_dark = any(len(door) == 4 for door in values[0][1]) if ahead[0] == "level" else False
                    good = wrong.with_darks(level) if is_dark else level
                    values[0] = good if ahead[0] == "level" else (level, *values[0][1:])
                    values[at] = None
                    self.refused(function, values, error, None)
        self.each_call(check)


class Names(unittest.TestCase):

    def test_1_each_name_is_defined_in_its_module(self):
        for function, _ in CALLS:
            self.assertTrue(function.__module__.startswith("timedoors."))
        told = {
            levels: 13, texts: 6, light: 6, trails: 7, tables: 5, far: 7, rests: 8, endless: 7, houses: 5, hands: 10,
            puzzles: 6, counting: 3, beside: 2, rescue: 2, reasons: 16, alike: 8, horizon: 4, longdoors: 7, layers: 6,
            layered: 5, founded: 7, paradox: 6, seen: 13, lines: 3, play: 1,
        }
        for module, many in told.items():
            named = [function for function, _ in CALLS if function.__module__ == module.__name__]
            self.assertEqual(len(named), many, module.__name__)

    def test_3_a_level_beyond_the_limits_is_a_level(self):
        self.assertTrue(levels.is_level((7, [([], room, 1) for room in range(7)] * 3)))
        self.assertTrue(levels.is_level((10 ** 30 - 1, [([10 ** 29], 10 ** 30 - 2, -1)])))
        self.assertTrue(levels.is_door(10 ** 30 - 1, ([0, 10 ** 29], 10 ** 29, 0)))
        self.assertFalse(levels.is_door(10 ** 29, ([0], 10 ** 29, 0)))
        self.assertEqual(levels.right_rooms((10 ** 29, [([], 10 ** 28, 1)])), [10 ** 28])
        self.assertTrue(levels.are_presses((10 ** 29, []), [[10 ** 28]] * 400))
        self.assertTrue(same(levels.is_level(HALL), True))


if __name__ == "__main__":
    unittest.main()
