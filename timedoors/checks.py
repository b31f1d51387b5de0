"""Refusals that many functions share: each check raises the error of its argument, or does nothing."""

from timedoors.errors import InvalidHistory, InvalidHouse, InvalidLetters, InvalidLevel, InvalidLights, InvalidNumber
from timedoors.errors import InvalidPresses, InvalidRoom, InvalidRuns, InvalidText, InvalidWalk, InvalidWalks
from timedoors.kinds import fits_dark_level, fits_endless, fits_house, fits_letters, fits_level, fits_lights
from timedoors.kinds import fits_long_level, fits_place, fits_presses, fits_room, fits_runs, fits_walk, fits_walks
from timedoors.kinds import is_count


def check_level(level):
    if not fits_level(level):
        raise InvalidLevel(level)


def check_long_level(level):
    if not fits_long_level(level):
        raise InvalidLevel(level)


def check_dark_level(level):
    if not fits_dark_level(level):
        raise InvalidLevel(level)


def check_presses(level, presses):
    if not fits_presses(level[0], presses):
        raise InvalidPresses(presses)


def check_dark_presses(level, presses):
    """What many functions take: a dark level and presses of its rooms."""
    check_dark_level(level)
    check_presses(level, presses)


def check_turn(level, turn):
    """Presses of a dark level that are done again and again."""
    check_dark_presses(level, turn)
    if len(turn) == 0:
        raise InvalidPresses(turn)


def check_history(level, history):
    if not fits_presses(level[0], history):
        raise InvalidHistory(history)


def check_runs(level, runs):
    if not fits_runs(level[0], runs):
        raise InvalidRuns(runs)


def check_endless(level, endless):
    if not fits_endless(level[0], endless):
        raise InvalidPresses(endless)


def check_room(level, room):
    if not fits_room(level[0], room):
        raise InvalidRoom(room)


def check_lights(level, lights):
    if not fits_lights(level[0], lights):
        raise InvalidLights(lights)


def check_count(number):
    if not is_count(number):
        raise InvalidNumber(number)


def check_tick(ticks, tick):
    """A tick is one of so many ticks, counted from 0."""
    if not is_count(tick) or tick >= ticks:
        raise InvalidNumber(tick)


def check_room_at(level, presses, tick, room):
    """What many functions take: a level, presses, one of their ticks and a room."""
    check_level(level)
    check_presses(level, presses)
    check_tick(len(presses), tick)
    check_room(level, room)


def check_text(text):
    if not isinstance(text, str):
        raise InvalidText(text)


def check_letters(level, letters):
    if not fits_letters(level[0], letters):
        raise InvalidLetters(letters)


def check_house(house):
    if not fits_house(house):
        raise InvalidHouse(house)


def check_walk(house, walk):
    if not fits_walk(house, walk):
        raise InvalidWalk(walk)


def check_walks(house, walks):
    if not fits_walks(house, walks):
        raise InvalidWalks(walks)


def check_stand(house, place):
    """Where somebody can stand: a place of the house, told by its number."""
    if not fits_place(house, place):
        raise InvalidNumber(place)
