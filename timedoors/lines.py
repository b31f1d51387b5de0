"""Recordings: a level and presses line by line, so that what is cut loses no line ahead of the cut."""

from timedoors.checks import check_level, check_presses, check_text
from timedoors.errors import InvalidText
from timedoors.kinds import fits_lights
from timedoors.texts import level_in_text, lights_of_text, text_of_level, text_of_lights


def recording(level, presses):
    check_level(level)
    check_presses(level, presses)
    lines = [text_of_level(level)] + [text_of_lights(lights) for lights in presses]
    return "".join([line + "\n" for line in lines])


def of_recording(text):
    check_text(text)
    told = recorded_in(text)
    if told is None:
        raise InvalidText(text)
    return told


def recorded_in(text):
    """The level and the presses that have just this text as their recording, `None` if there are none."""
    level, presses, many = read_lines(text)
    return None if level is None or many < len(text) else (level, presses)


def good_part(text):
    check_text(text)
    return read_lines(text)


def read_lines(text):
    # What is behind the last sign of a new line is a line that is not ended.
    lines = text.split("\n")[:-1]
    level = level_in_text(lines[0]) if len(lines) > 0 else None
    if level is None:
        return None, [], 0
    presses = []
    many = len(lines[0]) + 1
    for line in lines[1:]:
        lights = lights_of_text(line)
        if not fits_lights(level[0], lights):
            break
        presses.append(lights)
        many += len(line) + 1
    return level, presses, many
