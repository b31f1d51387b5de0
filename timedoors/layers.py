"""Dark levels: levels whose doors can need that rooms are dark, and the layers or the rings of these needs."""

from timedoors.checks import check_dark_level, check_level
from timedoors.kinds import fits_counts, fits_dark_level, fits_room
from timedoors.search import first_marks


def is_dark_level(value):
    return fits_dark_level(value)


def with_darks(level):
    check_level(level)
    rooms, doors = level
    return rooms, [(list(needs), [], room, shift) for needs, room, shift in doors]


def layers(level):
    check_dark_level(level)
    counts = least_counts(level)
    return None if counts is None else [counts.get(room, 0) for room in range(level[0])]


def least_counts(level):
    """The least layers of the rooms to which doors lead, `None` if there are none; those of all others are 0."""
    counts = {room: 0 for _, _, room, _ in level[1]}
    is_new = True
    while is_new:
        is_new = False
        for needs, darks, room, _ in level[1]:
            above = [counts.get(need, 0) for need in needs] + [counts.get(dark, 0) + 1 for dark in darks]
            least = max(above, default=0)
            # Each dark need on the way to a room leads to one more room, unless the way is a ring.
            if least > len(counts):
                return None
            if least > counts[room]:
                counts[room] = least
                is_new = True
    return counts


def are_layers(level, value):
    check_dark_level(level)
    return fits_layers(level, value)


def fits_layers(level, value):
    if not fits_counts(value) or len(value) != level[0]:
        return False
    return all([is_above(value, door) for door in level[1]])


def is_above(counts, door):
    needs, darks, room, _ = door
    if any([counts[need] > counts[room] for need in needs]):
        return False
    return all([counts[dark] < counts[room] for dark in darks])


def dark_ring(level):
    check_dark_level(level)
    leads = leads_of_doors(level)
    rings = [ring_from(leads, room) for room in sorted(leads)]
    # The shortest way round with a dark need meets no room twice: else a part of it would be a shorter one.
    return min(sorted([ring for ring in rings if ring is not None]), key=len, default=None)


def leads_of_doors(level):
    """For each room that a door needs, lit or dark, where such doors lead, and whether one of them needs it dark."""
    leads = {}
    for needs, darks, room, _ in level[1]:
        for need in needs:
            goals = leads.setdefault(need, {})
            goals.setdefault(room, False)
        for dark in darks:
            goals = leads.setdefault(dark, {})
            goals[room] = True
    return leads


def ring_from(leads, start):
    """The first one of the shortest ways round with a dark need from a room over rooms that are not less."""

    def follow(state):
        room, is_dark = state
        goals = leads.get(room, {})
        return [(goal, (goal, is_dark or goals[goal])) for goal in sorted(goals) if goal >= start]

    def is_round(state):
        return state == (start, True)

    marks = first_marks((start, False), follow, is_round)
    return None if marks is None else [start] + marks[:-1]


def is_dark_ring(level, value):
    check_dark_level(level)
    if not isinstance(value, list) or not all([fits_room(level[0], room) for room in value]):
        return False
    if len(value) == 0 or len(set(value)) < len(value) or value[0] != min(value):
        return False
    leads = leads_of_doors(level)
    told = [leads.get(room, {}).get(goal) for room, goal in zip(value, value[1:] + value[:1])]
    return None not in told and True in told
