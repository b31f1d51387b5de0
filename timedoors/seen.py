"""What is seen of founded histories: which of them agree with it, and where to look next."""

from timedoors.checks import check_dark_presses, check_tick
from timedoors.errors import InvalidHistory, InvalidNumber, InvalidRoom, TooMany
from timedoors.guesses import Guesses
from timedoors.kinds import is_count
from timedoors.lots import first_crossing
from timedoors.masks import in_each, in_some, lights_of, mask_of
from timedoors.opening import comes_by_itself
from timedoors.sights import Histories, fits_looks, fits_seen

MOST_PARTED = 12


def check_seen(level, presses, seen):
    check_dark_presses(level, presses)
    if not fits_seen(level[0], len(presses), seen):
        raise InvalidHistory(seen)


def check_looks(level, presses, looks):
    check_dark_presses(level, presses)
    if not fits_looks(level[0], len(presses), looks):
        raise InvalidHistory(looks)


def agrees(level, presses, seen, value):
    check_seen(level, presses, seen)
    # Made first, as too many histories are refused whatever the value is.
    Histories(level, presses)
    if not comes_by_itself(level, presses, value):
        return False
    return all([(room in value[tick]) == is_lit for tick, room, is_lit in seen])


def how_many_agree(level, presses, seen):
    check_seen(level, presses, seen)
    return len(Histories(level, presses).agreeing(seen))


def agreeing_with(level, presses, seen):
    check_seen(level, presses, seen)
    histories = Histories(level, presses)
    return [histories.lights(mask) for mask in histories.agreeing(seen)]


def sure_lights(level, presses, seen):
    check_seen(level, presses, seen)
    histories = Histories(level, presses)
    return histories.lights(in_each(histories.every, histories.agreeing(seen)))


def open_lights(level, presses, seen):
    check_seen(level, presses, seen)
    histories = Histories(level, presses)
    return histories.lights(in_some(histories.agreeing(seen)))


def worth_looking(level, presses, seen):
    check_seen(level, presses, seen)
    histories = Histories(level, presses)
    return histories.looks_in(unlike_among(histories, histories.agreeing(seen)))


def unlike_among(histories, masks):
    """The mask of the looks at which some of the histories are lit and others dark."""
    return in_some(masks) & ~in_each(histories.every, masks)


def best_looks(level, presses, seen):
    check_seen(level, presses, seen)
    histories = Histories(level, presses)
    masks = histories.agreeing(seen)
    numbers = lights_of(unlike_among(histories, masks))
    left = [most_left(masks, number) for number in numbers]
    return [histories.look(number) for number, many in zip(numbers, left) if many == min(left)]


def most_left(masks, number):
    """How many histories a look leaves at the most, whatever is seen."""
    lit = sum([mask >> number & 1 for mask in masks])
    return max(lit, len(masks) - lit)


def looks_needed(level, presses, seen):
    check_seen(level, presses, seen)
    histories = Histories(level, presses)
    masks = histories.agreeing(seen)
    if len(masks) > MOST_PARTED:
        raise TooMany(len(masks))
    columns = {}
    for number in lights_of(unlike_among(histories, masks)):
        columns[mask_of([at for at, mask in enumerate(masks) if mask >> number & 1])] = True
    return looks_to_part(len(masks), list(columns))


def looks_to_part(many, columns):
    """How many looks part so many histories; a column is the mask of those that are lit at a look."""
    needed = []
    # What is left of a part is a smaller number, so it has been told ahead.
    for part in range(1 << many):
        if part & (part - 1) == 0:
            needed.append(0)
        else:
            split = [column for column in columns if 0 < part & column < part]
            needed.append(1 + min([max(needed[part & column], needed[part & ~column]) for column in split]))
    return needed[-1]


def tells_apart(level, presses, looks):
    check_looks(level, presses, looks)
    histories = Histories(level, presses)
    looked = histories.mask_of_looks(looks)
    return len({mask & looked for mask in histories.masks}) == len(histories.masks)


def fewest_looks(level, presses):
    check_dark_presses(level, presses)
    histories = Histories(level, presses)
    masks = histories.masks
    if len(masks) > MOST_PARTED:
        raise TooMany(len(masks))
    unlike = [one ^ other for at, one in enumerate(masks) for other in masks[:at]]
    return [histories.look(number) for number in first_crossing(unlike)]


def is_needed_look(level, presses, looks, tick, room):
    check_looks(level, presses, looks)
    if not is_count(tick) or tick not in [when for when, _ in looks]:
        raise InvalidNumber(tick)
    if not is_count(room) or (tick, room) not in looks:
        raise InvalidRoom(room)
    histories = Histories(level, presses)
    looked = histories.mask_of_looks(looks)
    bit = histories.mask_of_looks([(tick, room)])
    told = {mask & looked: True for mask in histories.masks}
    return any([mask ^ bit in told for mask in told])


def clash(level, presses, seen):
    check_seen(level, presses, seen)
    histories = Histories(level, presses)
    against = [mask_of([at for at, sight in enumerate(seen) if is_against(histories, mask, sight)])
               for mask in histories.masks]
    if 0 in against:
        return None
    return [seen[at] for at in first_crossing(against)]


def is_against(histories, mask, sight):
    tick, room, is_lit = sight
    return (mask >> histories.number((tick, room)) & 1 == 1) != is_lit


def crossed(level, presses, one, other, tick):
    check_dark_presses(level, presses)
    for history in (one, other):
        if not comes_by_itself(level, presses, history):
            raise InvalidHistory(history)
    check_tick(len(presses), tick)
    guesses = Guesses(level)
    ahead = presses[:tick + 1]
    if state_behind(guesses, ahead, one) != state_behind(guesses, ahead, other):
        return None
    return [list(lights) for lights in one[:tick + 1] + other[tick + 1:]]


def state_behind(guesses, presses, history):
    """The number of the state behind some ticks of a founded history."""
    number = 0
    for pressed, lights in zip(presses, history):
        leads = {guess: later for guess, later in guesses.follow(number, mask_of(pressed))}
        number = leads[mask_of(lights)]
    return number
