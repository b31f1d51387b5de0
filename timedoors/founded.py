"""Founded histories of dark levels: those that come from the presses by just the doors that they open themselves."""

from timedoors.checks import check_dark_presses, check_history, check_turn
from timedoors.errors import InvalidHistory, InvalidNumber, TooMany
from timedoors.guesses import Course, Guesses
from timedoors.kinds import is_count
from timedoors.masks import in_each, in_some, lights_of, mask_of
from timedoors.opening import comes_by_itself, dark_door_masks, masks_by_opened

MOST_TOLD = 100
MOST_COUNTED = 60


def is_founded(level, presses, value):
    check_dark_presses(level, presses)
    return comes_by_itself(level, presses, value)


def founded_light(level, presses, history):
    check_dark_presses(level, presses)
    check_history(level, history)
    if len(history) != len(presses):
        raise InvalidHistory(history)
    pressed = [mask_of(lights) for lights in presses]
    lit = masks_by_opened(dark_door_masks(level), pressed, [mask_of(lights) for lights in history])
    return [lights_of(mask) for mask in lit]


def first_founded(level, presses):
    check_dark_presses(level, presses)
    masks = Course(level, presses).first()
    return None if masks is None else [lights_of(mask) for mask in masks]


def all_founded(level, presses):
    check_dark_presses(level, presses)
    course = Course(level, presses)
    if course.how_many() > MOST_TOLD:
        raise TooMany(course.how_many())
    return [[lights_of(mask) for mask in masks] for masks in course.histories()]


def how_many_founded(level, presses):
    check_dark_presses(level, presses)
    return Course(level, presses).how_many()


def founded_counts(level, turn, many):
    check_turn(level, turn)
    if not is_count(many) or many > MOST_COUNTED:
        raise InvalidNumber(many)
    guesses = Guesses(level)
    pressed = [mask_of(lights) for lights in turn]
    ways = {0: 1}
    counts = [1]
    for tick in range(many):
        ways = ways_gone_on(guesses, ways, pressed[tick % len(pressed)])
        counts.append(sum([told for number, told in ways.items() if guesses.is_end(number)]))
    return counts


def ways_gone_on(guesses, ways, pressed):
    """For each state behind one tick more in how many ways it is come to."""
    further = {}
    for number, many in ways.items():
        for _, later in guesses.follow(number, pressed):
            further[later] = further.get(later, 0) + many
    return further


def agreeing(level, presses):
    check_dark_presses(level, presses)
    course = Course(level, presses)
    if course.how_many() == 0:
        return None
    told = [course.guesses_at(tick) for tick in range(len(presses))]
    return [lights_of(in_each(masks[0], masks)) for masks in told], [lights_of(in_some(masks)) for masks in told]
