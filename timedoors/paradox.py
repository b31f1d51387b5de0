"""Paradoxes: presses of dark levels that no founded history has."""

from timedoors.alike import letters_numbered
from timedoors.checks import check_dark_level, check_dark_presses, check_letters, check_turn
from timedoors.guesses import Course, Guesses, rows_come_to, states_after, ways_on
from timedoors.masks import mask_of
from timedoors.rounds import made_plain
from timedoors.search import first_marks


def is_paradox(level, presses):
    check_dark_presses(level, presses)
    return Course(level, presses).how_many() == 0


def first_paradox(level, letters):
    check_dark_level(level)
    check_letters(level, letters)
    guesses = Guesses(level)
    masks = [mask_of(lights) for lights in letters]

    def follow(lot):
        return [(number, lot_after(guesses, lot, mask)) for number, mask in enumerate(masks)]

    def is_found(lot):
        return not is_any_end(guesses, lot)

    return letters_numbered(letters, first_marks((0,), follow, is_found))


def lot_after(guesses, lot, pressed):
    """The lot of all states to which those of a lot lead, in order, so that it can be looked up."""
    return tuple(sorted(states_after(guesses, lot, pressed)))


def is_any_end(guesses, lot):
    return any([guesses.is_end(number) for number in lot])


def founded_ticks(level, turn):
    check_turn(level, turn)
    return founded_rounds(level, turn)


def founded_rounds(level, turn):
    """For which numbers of ticks there is a founded history: those ahead, and a round, both as short as can be."""
    guesses = Guesses(level)
    pressed = [mask_of(lights) for lights in turn]
    met = {}
    told = []
    lot = (0,)
    while (lot, len(told) % len(turn)) not in met:
        met[(lot, len(told) % len(turn))] = len(told)
        told.append(is_any_end(guesses, lot))
        lot = lot_after(guesses, lot, pressed[(len(told) - 1) % len(turn)])
    start = met[(lot, len(told) % len(turn))]
    return made_plain(told[:start], told[start:])


def least_paradox(level, turn):
    check_turn(level, turn)
    ahead, again = founded_rounds(level, turn)
    told = ahead + again
    return told.index(False) if False in told else None


def forced_by(level, presses):
    check_dark_presses(level, presses)
    return [press for press, is_forced in pressed_more(level, presses) if is_forced]


def freed_by(level, presses):
    check_dark_presses(level, presses)
    return [press for press, is_forced in pressed_more(level, presses) if not is_forced]


def pressed_more(level, presses):
    """For each tick and room that is not pressed there, whether the presses with this one, too, are a paradox."""
    guesses = Guesses(level)
    pressed = [mask_of(lights) for lights in presses]
    come = rows_come_to(guesses, pressed, [[] for _ in presses])
    told = [(tick, room) for tick, mask in enumerate(pressed) for room in range(level[0]) if not mask >> room & 1]
    leads = [(tick, states_after(guesses, come[tick], pressed[tick] | 1 << room)) for tick, room in told]
    more = [[later for when, row in leads if when == tick for later in row] for tick in range(len(presses))]
    ways = ways_on(guesses, pressed, rows_come_to(guesses, pressed, more))
    return [(press, not any([ways[tick + 1][later] for later in row])) for press, (tick, row) in zip(told, leads)]
