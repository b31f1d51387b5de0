"""How each function of the last modules is called, told as in test_refusals: good and wrong values, and errors."""

from tests import wrong
from tests.calls import LETTERS, LEVEL, PRESSES, ROOM, WATCHED
from tests.wrong import ANY, LEVEL as BACK
from timedoors import errors, founded, horizon, layered, layers, lines, longdoors, paradox, play, seen

LONG = (3, [([0], 1, 4), ([0], 2, 3), ([1, 2], 0, -2), ([], 2, 0)])
NIGHT = (3, [([0], [], 1, 1), ([], [1], 2, -1)])
WAVER = (3, [([], [0], 1, 0), ([], [1], 0, 0), ([0], [], 2, 1)])
TWO = [[], [2]]

LONG_LEVEL = ("level", LONG, wrong.LONG_LEVELS, errors.InvalidLevel)
SHORT_LEVEL = ("level", (3, [([0], 1, 3), ([1], 0, -2)]), wrong.LONG_LEVELS, errors.InvalidLevel)
RUNS = ("runs", [([], 10 ** 20), ([0], 1), ([1], 3)], wrong.RUNS, errors.InvalidRuns)
FAR_TICK = ("tick", 10 ** 20, wrong.COUNTS + [10 ** 20 + 4, 10 ** 29], errors.InvalidNumber)
DARK_LEVEL = ("level", WAVER, wrong.DARK_LEVELS, errors.InvalidLevel)
LAYERED = ("level", NIGHT, wrong.DARK_LEVELS + wrong.RINGS, errors.InvalidLevel)
ENDLESS = ("endless", ([[0]], [[], [1], [], [1]]), wrong.ENDLESS, errors.InvalidPresses)
SHORT = ("presses", TWO, wrong.PRESSES, errors.InvalidPresses)
TURN = ("turn", TWO, wrong.PRESSES + [[]], errors.InvalidPresses)
SEEN = ("seen", [(0, 0, True), (1, 2, True)], wrong.SEEN, errors.InvalidHistory)
LOOKS = ("looks", [(0, 0), (1, 0), (1, 2)], wrong.LOOKS, errors.InvalidHistory)
HISTORIES = wrong.PRESSES + [[], [[]], [[0], [2]], [[0], [0, 1, 2]], [[0], [0, 2], []], ([0], [0, 2])]

CALLS_OF_STAGE_5 = [
    (horizon.fewest_time_doors, [LEVEL, LETTERS, WATCHED]),
    (horizon.hangs_ahead, [LEVEL, LETTERS, WATCHED]),
    (horizon.unlike_ahead, [LEVEL, LETTERS, WATCHED, ("ticks", 2, wrong.COUNTS, errors.InvalidNumber)]),
    (horizon.horizon, [LEVEL, LETTERS, WATCHED]),
    (longdoors.is_long_level, [ANY]),
    (longdoors.long_light, [LONG_LEVEL, PRESSES]),
    (longdoors.near_level, [LONG_LEVEL]),
    (longdoors.slowed, [LONG_LEVEL, ("many", 2, wrong.COUNTS + [0, 3, 9, 10, 10 ** 29], errors.InvalidNumber)]),
    (longdoors.mirrored, [LONG_LEVEL]),
    (longdoors.long_far_light, [SHORT_LEVEL, RUNS, FAR_TICK]),
    (longdoors.reach_of, [SHORT_LEVEL, RUNS, ROOM]),
    (layers.is_dark_level, [ANY]),
    (layers.with_darks, [("level", BACK, wrong.LEVELS + [NIGHT], errors.InvalidLevel)]),
    (layers.layers, [DARK_LEVEL]),
    (layers.are_layers, [DARK_LEVEL, ANY]),
    (layers.dark_ring, [DARK_LEVEL]),
    (layers.is_dark_ring, [DARK_LEVEL, ANY]),
    (layered.layered_history, [LAYERED, PRESSES]),
    (layered.layered_by, [LAYERED, ("counts", [2, 3, 5], wrong.COUNTS_OF_LAYERS, errors.InvalidLayers), PRESSES]),
    (layered.is_layered_history, [LAYERED, PRESSES, ANY]),
    (layered.swayed, [DARK_LEVEL, ("one", 0, wrong.ROOMS, errors.InvalidRoom),
                      ("other", 2, wrong.ROOMS, errors.InvalidRoom)]),
    (layered.layered_endless, [LAYERED, ENDLESS]),
]

CALLS_OF_STAGE_6 = [
    (founded.is_founded, [DARK_LEVEL, PRESSES, ANY]),
    (founded.founded_light, [DARK_LEVEL, SHORT, ("history", [[0], [1]], wrong.PRESSES + [[], [[]], [[], [], []]],
                                                 errors.InvalidHistory)]),
    (founded.first_founded, [DARK_LEVEL, PRESSES]),
    (founded.all_founded, [DARK_LEVEL, PRESSES]),
    (founded.how_many_founded, [DARK_LEVEL, PRESSES]),
    (founded.founded_counts, [DARK_LEVEL, TURN, ("many", 5, wrong.COUNTS + [61, 10 ** 29], errors.InvalidNumber)]),
    (founded.agreeing, [DARK_LEVEL, PRESSES]),
    (paradox.is_paradox, [DARK_LEVEL, PRESSES]),
    (paradox.first_paradox, [DARK_LEVEL, LETTERS]),
    (paradox.founded_ticks, [DARK_LEVEL, TURN]),
    (paradox.least_paradox, [DARK_LEVEL, TURN]),
    (paradox.forced_by, [DARK_LEVEL, PRESSES]),
    (paradox.freed_by, [DARK_LEVEL, PRESSES]),
    (seen.agrees, [DARK_LEVEL, SHORT, SEEN, ANY]),
    (seen.how_many_agree, [DARK_LEVEL, SHORT, SEEN]),
    (seen.agreeing_with, [DARK_LEVEL, SHORT, SEEN]),
    (seen.sure_lights, [DARK_LEVEL, SHORT, SEEN]),
    (seen.open_lights, [DARK_LEVEL, SHORT, SEEN]),
    (seen.worth_looking, [DARK_LEVEL, SHORT, SEEN]),
    (seen.best_looks, [DARK_LEVEL, SHORT, SEEN]),
    (seen.looks_needed, [DARK_LEVEL, SHORT, SEEN]),
    (seen.tells_apart, [DARK_LEVEL, SHORT, LOOKS]),
    (seen.fewest_looks, [DARK_LEVEL, SHORT]),
    (seen.is_needed_look, [DARK_LEVEL, SHORT, LOOKS, ("tick", 0, wrong.COUNTS + [2, 10 ** 29], errors.InvalidNumber),
                           ("room", 0, wrong.COUNTS + [1, 2, 3], errors.InvalidRoom)]),
    (seen.clash, [DARK_LEVEL, SHORT, ("seen", [(0, 0, True), (0, 1, True), (1, 2, False)], wrong.SEEN,
                                      errors.InvalidHistory)]),
    (seen.crossed, [DARK_LEVEL, SHORT, ("one", [[0], [0, 2]], HISTORIES, errors.InvalidHistory),
                    ("other", [[1], [1, 2]], HISTORIES, errors.InvalidHistory),
                    ("tick", 1, wrong.COUNTS + [2, 10 ** 29], errors.InvalidNumber)]),
    (lines.recording, [LEVEL, PRESSES]),
    (lines.of_recording, [("text", "3: 0.1=2 2>0 -<1\n0.2\n-\n", wrong.RECORDINGS, errors.InvalidText)]),
    (lines.good_part, [("text", "3: 0.1=2 2>0 -<1\n0.2\n-\n3\n0", [value for value in wrong.RECORDINGS
                                                                 if not isinstance(value, str)], errors.InvalidText)]),
    (play.is_deed, [("play", play.Play(BACK), [None, 0, "", [], (), {}, BACK, ("tick", [])], errors.InvalidDeed), ANY]),
]
