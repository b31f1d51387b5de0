"""What values are: each function here tells whether any value at all is of one kind."""

# How far doors lead, and how far long ones do.
NEXT = 1
FARTHEST = 9


def is_whole(value):
    """A Boolean is an integer for Python, but no number of this package."""
    return isinstance(value, int) and not isinstance(value, bool)


def is_count(value):
    return is_whole(value) and value >= 0


def is_tuple_of(many, value):
    return isinstance(value, tuple) and len(value) == many


def fits_room(rooms, value):
    return is_count(value) and value < rooms


def fits_lights(rooms, value):
    if not isinstance(value, list):
        return False
    ahead = -1
    for room in value:
        if not fits_room(rooms, room) or room <= ahead:
            return False
        ahead = room
    return True


def fits_presses(rooms, value):
    """Presses and histories are of one kind: lists of lights."""
    return isinstance(value, list) and all([fits_lights(rooms, lights) for lights in value])


def fits_door(rooms, value):
    return fits_door_within(rooms, value, NEXT)


def fits_long_door(rooms, value):
    return fits_door_within(rooms, value, FARTHEST)


def fits_door_within(rooms, value, farthest):
    if not is_tuple_of(3, value):
        return False
    needs, room, shift = value
    if not fits_lights(rooms, needs) or not fits_room(rooms, room):
        return False
    return is_whole(shift) and -farthest <= shift <= farthest


def fits_dark_door(rooms, value):
    if not is_tuple_of(4, value):
        return False
    needs, darks, room, shift = value
    return fits_lights(rooms, darks) and fits_door(rooms, (needs, room, shift))


def fits_level(value):
    return fits_level_with(value, fits_door)


def fits_long_level(value):
    return fits_level_with(value, fits_long_door)


def fits_dark_level(value):
    return fits_level_with(value, fits_dark_door)


def fits_level_with(value, fits_one):
    """Whether a value is a tuple of a number of rooms and of a list of doors of one kind."""
    if not is_tuple_of(2, value):
        return False
    rooms, doors = value
    if not is_whole(rooms) or rooms < 1 or not isinstance(doors, list):
        return False
    return all([fits_one(rooms, door) for door in doors])


def fits_run(rooms, value):
    return is_tuple_of(2, value) and fits_lights(rooms, value[0]) and is_count(value[1])


def fits_runs(rooms, value):
    return isinstance(value, list) and all([fits_run(rooms, run) for run in value])


def fits_endless(rooms, value):
    if not is_tuple_of(2, value):
        return False
    presses, turn = value
    return fits_presses(rooms, presses) and fits_presses(rooms, turn) and len(turn) > 0


def fits_letters(rooms, value):
    if not fits_presses(rooms, value) or len(value) == 0:
        return False
    return all([value[at] < value[at + 1] for at in range(len(value) - 1)])


def fits_place(house, value):
    return is_count(value) and value < len(house[1])


def fits_step(rooms, places, value):
    if not is_tuple_of(3, value):
        return False
    place, goal, needs = value
    if not is_count(place) or not is_count(goal) or place == goal:
        return False
    return place < places and goal < places and fits_lights(rooms, needs)


def fits_house(value):
    if not is_tuple_of(3, value):
        return False
    level, plates, steps = value
    if not fits_level(level) or not fits_presses(level[0], plates) or len(plates) == 0:
        return False
    return isinstance(steps, list) and all([fits_step(level[0], len(plates), step) for step in steps])


def leads_of(house):
    """The tuples of a place and of another one to which some step leads from it."""
    return {(place, goal): True for place, goal, _ in house[2]}


def fits_walk(house, value):
    if not isinstance(value, list) or len(value) == 0:
        return False
    if not all([fits_place(house, place) for place in value]):
        return False
    leads = leads_of(house)
    steps = list(zip(value, value[1:]))
    return all([place == goal or (place, goal) in leads for place, goal in steps])


def fits_walks(house, value):
    return isinstance(value, list) and all([fits_walk(house, walk) for walk in value])


def fits_stay(house, value):
    return is_tuple_of(2, value) and fits_place(house, value[0]) and is_whole(value[1]) and value[1] >= 1


def fits_stays(house, value):
    if not isinstance(value, list) or len(value) == 0:
        return False
    if not all([fits_stay(house, stay) for stay in value]):
        return False
    leads = leads_of(house)
    # No step leads from a place to itself, so places that are alike are refused by this, too.
    return all([(value[at][0], value[at + 1][0]) in leads for at in range(len(value) - 1)])


def fits_counts(value):
    return isinstance(value, list) and all([is_count(number) for number in value])


def is_press(value):
    """A press is a tick and a room, of whatever presses."""
    return is_tuple_of(2, value) and is_count(value[0]) and is_count(value[1])


def fits_lot(value):
    """A lot is an ascending list of presses, each once."""
    if not isinstance(value, list) or not all([is_press(press) for press in value]):
        return False
    return all([value[at] < value[at + 1] for at in range(len(value) - 1)])


def fits_numbers(many, value):
    """An ascending list of numbers below so many, each once: these are told like lights."""
    return fits_lights(many, value)
