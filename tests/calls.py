"""How each function of the later modules is called, told as in test_refusals: good and wrong values, and errors."""

from tests import wrong
from tests.wrong import ANY, LEVEL as BACK
from timedoors import alike, beside, counting, endless, errors, hands, houses, puzzles, reasons, rescue

KEYED = [[], [0, 1], [0]]
HOUSE_OF_CALLS = (BACK, [[], [0], [2]], [(0, 1, [2]), (1, 0, []), (1, 2, [0, 1]), (1, 2, [0, 2]), (2, 0, [0])])
OWN_WALKS = [[0, 0, 1], [1, 2, 2, 2]]

LEVEL = ("level", BACK, wrong.LEVELS, errors.InvalidLevel)
PRESSES = ("presses", KEYED, wrong.PRESSES, errors.InvalidPresses)
SOME_PRESSES = ("presses", [[0], [], [1]], wrong.PRESSES, errors.InvalidPresses)
TICK = ("tick", 1, wrong.TICKS, errors.InvalidNumber)
ROOM = ("room", 2, wrong.ROOMS, errors.InvalidRoom)
LIGHTS = ("lights", [0, 2], wrong.LIGHTS, errors.InvalidLights)
ENDLESS = ("endless", ([[0]], [[], [1], [], [1]]), wrong.ENDLESS, errors.InvalidPresses)
LETTERS = ("letters", [[], [0], [1]], wrong.LETTERS, errors.InvalidLetters)
WATCHED = ("watched", [1, 2], wrong.LIGHTS, errors.InvalidLights)

HOUSE = ("house", HOUSE_OF_CALLS, wrong.HOUSES, errors.InvalidHouse)
START = ("start", 0, wrong.PLACES, errors.InvalidNumber)
GOAL = ("goal", 1, wrong.PLACES, errors.InvalidNumber)
WALKS = ("walks", OWN_WALKS, wrong.WALKS, errors.InvalidWalks)
NUMBER = ("number", 0, wrong.COUNTS + [2, 3, 10 ** 29], errors.InvalidNumber)
LENGTH = ("length", 3, wrong.COUNTS, errors.InvalidNumber)
WALK = ("walk", [0, 0, 1, 2], wrong.WALK, errors.InvalidWalk)

CALLS_OF_STAGE_3 = [
    (endless.for_ever, [LEVEL, ENDLESS]),
    (endless.for_ever_at, [LEVEL, ENDLESS, ("tick", 10 ** 30 - 1, wrong.COUNTS, errors.InvalidNumber)]),
    (endless.keeps_for_ever, [LEVEL, ENDLESS, ANY]),
    (endless.stays_from, [LEVEL, ENDLESS, ("many", 60, wrong.COUNTS + [61, 10 ** 29], errors.InvalidNumber)]),
    (endless.changed, [LEVEL, SOME_PRESSES, TICK, LIGHTS]),
    (endless.added, [LEVEL, SOME_PRESSES, TICK, LIGHTS]),
    (endless.reach_back, [LEVEL, SOME_PRESSES, TICK, LIGHTS]),
    (houses.is_house, [ANY]),
    (houses.is_walk, [HOUSE, ANY]),
    (houses.steps_between, [HOUSE, ("place", 1, wrong.PLACES, errors.InvalidNumber),
                            ("goal", 2, wrong.PLACES, errors.InvalidNumber)]),
    (houses.pressed_by, [HOUSE, WALKS]),
    (houses.hands_light, [HOUSE, WALKS]),
    (hands.open_steps, [HOUSE, WALKS, NUMBER]),
    (hands.first_shut, [HOUSE, WALKS]),
    (hands.greatest_playable, [HOUSE, WALKS]),
    (hands.why_unplayable, [HOUSE, WALKS]),
    (hands.earned, [HOUSE, WALKS]),
    (hands.opened_by, [HOUSE, WALKS, NUMBER, ("tick", 1, wrong.COUNTS + [2, 3, 10 ** 29], errors.InvalidNumber)]),
    (hands.debts, [HOUSE, WALKS]),
    (hands.put_off, [("walks", [[0, 1], [2]], wrong.COUNT_LISTS, errors.InvalidWalks),
                     ("ticks", 2, wrong.COUNTS, errors.InvalidNumber)]),
    (hands.are_stays, [HOUSE, ANY]),
    (hands.far_steps, [HOUSE, ("stays", [(0, 10 ** 29), (1, 1), (2, 3)], wrong.STAYS, errors.InvalidWalk)]),
    (puzzles.shortest_walk, [HOUSE, START, GOAL]),
    (puzzles.shortest_lighting, [HOUSE, START, ROOM]),
    (puzzles.state_of, [HOUSE, WALK]),
    (puzzles.states_met, [HOUSE, START]),
    (puzzles.no_walk_paper, [HOUSE, START, GOAL]),
    (puzzles.is_no_walk_paper, [HOUSE, START, GOAL, ANY]),
    (counting.how_many_walks, [HOUSE, START, GOAL, LENGTH]),
    (counting.walk_numbered, [HOUSE, START, GOAL, LENGTH, ("number", 0, wrong.COUNTS, errors.InvalidNumber)]),
    (counting.number_of_walk, [HOUSE, ("walk", [1, 2, 2], wrong.WALK + [[2, 0], [1, 2, 0]], errors.InvalidWalk)]),
]

CALLS_OF_STAGE_4 = [
    (beside.shortest_beside, [HOUSE, WALKS, START, GOAL]),
    (beside.how_many_beside, [HOUSE, WALKS, START, GOAL, LENGTH]),
    (rescue.rescue, [LEVEL, SOME_PRESSES, LETTERS, TICK, ROOM]),
    (rescue.settled_past, [LEVEL, SOME_PRESSES, LETTERS]),
    (reasons.presses_in, [LEVEL, PRESSES]),
    (reasons.with_only, [LEVEL, PRESSES, ("lot", [(1, 1), (2, 0)], wrong.LOT, errors.InvalidPresses)]),
    (reasons.without, [LEVEL, PRESSES, ("lot", [(1, 1), (2, 0)], wrong.LOT, errors.InvalidPresses)]),
    (reasons.reasons, [LEVEL, PRESSES, TICK, ROOM]),
    (reasons.cuts, [LEVEL, PRESSES, TICK, ROOM]),
    (reasons.is_reason, [LEVEL, PRESSES, TICK, ROOM, ANY]),
    (reasons.is_cut, [LEVEL, PRESSES, TICK, ROOM, ANY]),
    (reasons.crossing, [("lots", [[(0, 0), (1, 1)], [(0, 0), (0, 2)]], wrong.LOTS, errors.InvalidPresses)]),
    (reasons.fewest_reason, [LEVEL, PRESSES, TICK, ROOM]),
    (reasons.fewest_cut, [LEVEL, PRESSES, TICK, ROOM]),
    (reasons.sure_presses, [LEVEL, PRESSES, TICK, ROOM]),
    (reasons.idle_presses, [LEVEL, PRESSES, TICK, ROOM]),
    (reasons.how_many_light, [LEVEL, PRESSES, TICK, ROOM]),
    (reasons.alone, [LEVEL, ("ticks", 3, wrong.COUNTS + [0, 31, 10 ** 29], errors.InvalidNumber), TICK, ROOM]),
    (reasons.is_added, [LEVEL, PRESSES]),
    (reasons.together, [LEVEL, PRESSES]),
    (alike.are_alike, [("one", BACK, wrong.LEVELS, errors.InvalidLevel),
                       ("other", (3, []), wrong.LEVELS, errors.InvalidLevel), LETTERS, WATCHED]),
    (alike.parting, [("one", BACK, wrong.LEVELS, errors.InvalidLevel),
                     ("other", (3, []), wrong.LEVELS, errors.InvalidLevel), LETTERS, WATCHED]),
    (alike.is_parting, [("one", BACK, wrong.LEVELS, errors.InvalidLevel),
                        ("other", (3, []), wrong.LEVELS, errors.InvalidLevel), LETTERS, WATCHED, ANY]),
    (alike.lighting, [LEVEL, LETTERS, ROOM]),
    (alike.without_doors, [LEVEL, ("numbers", [0, 2], wrong.NUMBERS, errors.InvalidNumber)]),
    (alike.idle_doors, [LEVEL, LETTERS, WATCHED]),
    (alike.least_lots, [LEVEL, LETTERS, WATCHED]),
    (alike.is_enough, [LEVEL, LETTERS, WATCHED, ANY]),
]
