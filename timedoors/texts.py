"""Texts of levels and presses, and pictures of histories."""

from timedoors.checks import check_history, check_level, check_presses, check_text
from timedoors.errors import InvalidText
from timedoors.kinds import fits_level, fits_presses

SIGNS = "<=>"
FIGURES = "0123456789"


def text_of_level(level):
    check_level(level)
    rooms, doors = level
    return f"{rooms}:" + "".join([" " + text_of_door(door) for door in doors])


def text_of_door(door):
    needs, room, shift = door
    return f"{text_of_lights(needs)}{SIGNS[shift + 1]}{room}"


def text_of_lights(lights):
    if len(lights) == 0:
        return "-"
    return ".".join([str(room) for room in lights])


def text_of_presses(level, presses):
    check_level(level)
    check_presses(level, presses)
    return " ".join([text_of_lights(lights) for lights in presses])


def level_of_text(text):
    check_text(text)
    level = level_in_text(text)
    if level is None:
        raise InvalidText(text)
    return level


def level_in_text(text):
    """The level of a text, `None` if it is the text of none."""
    head, colon, tail = text.partition(":")
    # The blank stands ahead of each door, so what is ahead of the first blank has to be nothing.
    words = tail.split(" ")
    doors = [door_of_text(word) for word in words[1:]]
    level = (number_of_text(head), doors)
    return level if colon != "" and words[0] == "" and fits_level(level) else None


def door_of_text(word):
    """The door of a text, `None` if it is none; its rooms are judged with the whole level."""
    for shift in (-1, 0, 1):
        needs, sign, room = word.partition(SIGNS[shift + 1])
        if sign != "":
            return lights_of_text(needs), number_of_text(room), shift
    return None


def lights_of_text(word):
    if word == "-":
        return []
    return [number_of_text(part) for part in word.split(".")]


def number_of_text(word):
    """The number of plain figures without a zero ahead, `None` for anything else."""
    if word == "" or (word[0] == "0" and word != "0"):
        return None
    number = 0
    for sign in word:
        if sign not in FIGURES:
            return None
        number = number * 10 + int(sign)
    return number


def presses_of_text(level, text):
    check_level(level)
    check_text(text)
    presses = []
    if text != "":
        presses = [lights_of_text(word) for word in text.split(" ")]
    if not fits_presses(level[0], presses):
        raise InvalidText(text)
    return presses


def picture(level, history):
    check_level(level)
    check_history(level, history)
    return ["".join([sign_of(room, lights) for lights in history]) for room in range(level[0])]


def sign_of(room, lights):
    return "#" if room in lights else "."


def history_in(level, lines):
    check_level(level)
    if not is_picture(level[0], lines):
        raise InvalidText(lines)
    return [lit_in_column(lines, tick) for tick in range(len(lines[0]))]


def lit_in_column(lines, tick):
    return [room for room, line in enumerate(lines) if line[tick] == "#"]


def is_picture(rooms, value):
    if not isinstance(value, list) or len(value) != rooms:
        return False
    for line in value:
        if not isinstance(line, str) or len(line) != len(value[0]):
            return False
        if line.count("#") + line.count(".") != len(line):
            return False
    return True
