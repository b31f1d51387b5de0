"""Papers for both answers: trails for lit rooms, closed histories for dark ones."""

from timedoors.checks import check_level, check_presses, check_room_at
from timedoors.keeping import count_keeping, is_keeping
from timedoors.kinds import fits_room, is_count, is_tuple_of
from timedoors.masks import lights_of, mask_of
from timedoors.spread import light_masks, round_numbers

PRESS = ("press",)


def is_trail(level, presses, tick, room, value):
    check_room_at(level, presses, tick, room)
    if not isinstance(value, list) or len(value) == 0:
        return False
    stands = {}
    for line in value:
        if not is_line(level, presses, line) or not is_given(level, presses, stands, line):
            return False
        stands[(line[0], line[1])] = True
    return value[-1][0] == tick and value[-1][1] == room


def is_line(level, presses, value):
    """Whether a value has the form of a line, of a tick and a room that there are."""
    if not is_tuple_of(3, value):
        return False
    tick, room, why = value
    return is_count(tick) and tick < len(presses) and fits_room(level[0], room) and isinstance(why, tuple)


def is_given(level, presses, stands, line):
    """Whether a line has its press, or its door with all needs among the places that stand."""
    tick, room, why = line
    if why == PRESS:
        return room in presses[tick]
    if len(why) != 2 or why[0] != "door" or not is_count(why[1]) or why[1] >= len(level[1]):
        return False
    needs, given, shift = level[1][why[1]]
    start = tick - shift
    if given != room or not 0 <= start < len(presses):
        return False
    return all([(start, need) in stands for need in needs])


def first_trail(level, presses, tick, room):
    check_room_at(level, presses, tick, room)
    numbers = round_numbers(level, presses)
    if numbers[tick][room] is None:
        return None
    whys = {}
    waiting = [(tick, room)]
    while len(waiting) > 0:
        place = waiting.pop()
        if place not in whys:
            whys[place], needed = why_lit(level, numbers, place)
            waiting.extend(needed)
    lines = sorted([(numbers[when][where], when, where) for when, where in whys])
    return [(when, where, whys[(when, where)]) for _, when, where in lines]


def why_lit(level, numbers, place):
    """Why a lit place is lit, and the places that this needs."""
    tick, room = place
    if numbers[tick][room] == 0:
        return PRESS, []
    for number, (needs, given, shift) in enumerate(level[1]):
        start = tick - shift
        if given == room and 0 <= start < len(numbers):
            needed = [(start, need) for need in needs]
            if all([is_earlier(numbers, ahead, place) for ahead in needed]):
                return ("door", number), needed
    return None, []


def is_earlier(numbers, one, other):
    """Whether a place is lit in an earlier round than another one, which is lit."""
    number = numbers[one[0]][one[1]]
    return number is not None and number < numbers[other[0]][other[1]]


def trail_depth(level, presses, tick, room):
    check_room_at(level, presses, tick, room)
    return round_numbers(level, presses)[tick][room]


def is_dark_paper(level, presses, tick, room, value):
    check_room_at(level, presses, tick, room)
    return is_keeping(level, presses, value) and room not in value[tick]


def how_many_without(level, presses, tick, room):
    check_room_at(level, presses, tick, room)
    banned = [0 for _ in presses]
    banned[tick] = 1 << room
    return count_keeping(level, presses, banned)


def givers(level, presses, tick, room):
    check_room_at(level, presses, tick, room)
    return giving_doors(level, light_masks(level, presses), tick, room)


def giving_doors(level, lit, tick, room):
    numbers = []
    for number, (needs, given, shift) in enumerate(level[1]):
        start = tick - shift
        if given == room and 0 <= start < len(lit) and mask_of(needs) & ~lit[start] == 0:
            numbers.append(number)
    return numbers


def sole_light(level, presses):
    check_level(level)
    check_presses(level, presses)
    lit = light_masks(level, presses)
    places = []
    for tick, mask in enumerate(lit):
        for room in lights_of(mask & ~mask_of(presses[tick])):
            if len(giving_doors(level, lit, tick, room)) == 1:
                places.append((tick, room))
    return places
