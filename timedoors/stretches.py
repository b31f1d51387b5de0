"""Tables of stretches in rows of indexes, and how they are joined.

A table is a tuple of two rows, what is sent left and what is sent right. In both, P and Q stand at the
index of P shifted by the number of left rooms, and the index of Q.
"""

from timedoors.kinds import is_tuple_of, is_whole
from timedoors.machine import lights_by_index
from timedoors.masks import mask_of


def no_ticks(machine):
    """Nothing is between the two sides: P is sent right and Q is sent left."""
    rights, lefts = 1 << len(machine.rights), 1 << len(machine.lefts)
    left = tuple([coming for _ in range(rights) for coming in range(lefts)])
    right = tuple([coming for coming in range(rights) for _ in range(lefts)])
    return left, right


def meetings(machine, one, other):
    """For each P and Q of two stretches together the places in the table of the one and of the other.

    What goes to and fro between them grows from nothing on until it fits.
    """
    width = len(machine.lefts)
    one_right, other_left = one[1], other[0]
    places = []
    for at in range(len(one_right)):
        start = at >> width << width
        end = at - start
        coming = 0
        there = one_right[start] << width | end
        while other_left[there] != coming:
            coming = other_left[there]
            there = one_right[start | coming] << width | end
        places.append((start | coming, there))
    return places


def join(machine, one, other):
    return told_at(one, other, meetings(machine, one, other))


def told_at(one, other, places):
    one_left, other_right = one[0], other[1]
    return tuple([one_left[here] for here, _ in places]), tuple([other_right[there] for _, there in places])


def table_of_presses(machine, presses):
    table = no_ticks(machine)
    for lights in presses:
        table = join(machine, table, machine.table_of_tick(mask_of(lights)))
    return table


def repeated(machine, one, many, nothing, joining):
    """So many like stretches one behind the other, by doubling; `nothing` is that of no ticks."""
    whole = nothing
    while many > 0:
        if many & 1:
            whole = joining(machine, whole, one)
        many >>= 1
        if many > 0:
            one = joining(machine, one, one)
    return whole


def rest_of(machine, table):
    """What a stretch with nothing behind it sends left, for each index of P."""
    return [table[0][coming << len(machine.lefts)] for coming in range(1 << len(machine.rights))]


def front_of(machine, table):
    """What a stretch with nothing ahead of it sends right, for each index of Q."""
    return [table[1][coming] for coming in range(1 << len(machine.lefts))]


def indexes_in_order(rooms):
    """The indexes of all sets of rooms, in Python's order of their lights."""
    told = sorted([(lights_by_index(rooms, index), index) for index in range(1 << len(rooms))])
    return [index for _, index in told]


def told_table(machine, table):
    """A table as it is handed out."""
    rights, lefts = machine.rights, machine.lefts
    lines = []
    for right in indexes_in_order(rights):
        for left in indexes_in_order(lefts):
            at = right << len(lefts) | left
            coming = (lights_by_index(rights, right), lights_by_index(lefts, left))
            lines.append(coming + (lights_by_index(lefts, table[0][at]), lights_by_index(rights, table[1][at])))
    return lines


def table_in(machine, value):
    """The table that a value tells, `None` if it is none."""
    rights, lefts = machine.rights, machine.lefts
    # The length is looked at first: only then there are not more sets than lines.
    if not isinstance(value, list) or len(value) != 1 << (len(rights) + len(lefts)):
        return None
    heads = [(right, left) for right in indexes_in_order(rights) for left in indexes_in_order(lefts)]
    left_row, right_row = list(range(len(value))), list(range(len(value)))
    for (right, left), line in zip(heads, value):
        if not is_tuple_of(4, line):
            return None
        if index_in(rights, line[0]) != right or index_in(lefts, line[1]) != left:
            return None
        at = right << len(lefts) | left
        left_row[at], right_row[at] = index_in(lefts, line[2]), index_in(rights, line[3])
    if not rises(left_row) or not rises(right_row):
        return None
    return tuple(left_row), tuple(right_row)


def index_in(rooms, value):
    """The index of lights of these rooms alone, `None` for any other value."""
    if not isinstance(value, list):
        return None
    index = 0
    for room in value:
        if not is_whole(room) or room not in rooms or index >> rooms.index(room) > 0:
            return None
        index |= 1 << rooms.index(room)
    return index


def rises(row):
    """Whether all items are indexes, and none loses anything where one more bit comes in."""
    if None in row:
        return False
    bit = 1
    while bit < len(row):
        for at, sent in enumerate(row):
            if sent & ~row[at | bit]:
                return False
        bit <<= 1
    return True
