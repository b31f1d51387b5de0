"""What values are: each function here tells whether any value at all is of one kind."""


def is_whole(value):
    """A Boolean is an integer for Python, but no number of this package."""
    return isinstance(value, int) and not isinstance(value, bool)


def is_count(value):
    return is_whole(value) and value >= 0


def is_tuple_of(many, value):
    return isinstance(value, tuple) and len(value) == many


def fits_room(rooms, value):
    return is_count(value) and value < rooms


def fits_lights(rooms, value):
    if not isinstance(value, list):
        return False
    ahead = -1
    for room in value:
        if not fits_room(rooms, room) or room <= ahead:
            return False
        ahead = room
    return True


def fits_presses(rooms, value):
    """Presses and histories are of one kind: lists of lights."""
    return isinstance(value, list) and all([fits_lights(rooms, lights) for lights in value])


def fits_door(rooms, value):
    if not is_tuple_of(3, value):
        return False
    needs, room, shift = value
    return fits_lights(rooms, needs) and fits_room(rooms, room) and is_whole(shift) and -1 <= shift <= 1


def fits_level(value):
    if not is_tuple_of(2, value):
        return False
    rooms, doors = value
    if not is_whole(rooms) or rooms < 1 or not isinstance(doors, list):
        return False
    return all([fits_door(rooms, door) for door in doors])


def fits_run(rooms, value):
    return is_tuple_of(2, value) and fits_lights(rooms, value[0]) and is_count(value[1])


def fits_runs(rooms, value):
    return isinstance(value, list) and all([fits_run(rooms, run) for run in value])


def fits_endless(rooms, value):
    if not is_tuple_of(2, value):
        return False
    presses, turn = value
    return fits_presses(rooms, presses) and fits_presses(rooms, turn) and len(turn) > 0


def fits_letters(rooms, value):
    if not fits_presses(rooms, value) or len(value) == 0:
        return False
    return all([value[at] < value[at + 1] for at in range(len(value) - 1)])
