"""What is still to come: tables of stretches with nothing behind them, or nothing ahead of them."""

from timedoors.checks import check_level, check_lights, check_presses
from timedoors.errors import InvalidPresses, InvalidTable
from timedoors.kinds import is_tuple_of
from timedoors.machine import Machine, lights_by_index
from timedoors.masks import lights_of, mask_of
from timedoors.meeting import front_after, no_front, no_rest, rest_before, rests_from, settle_between
from timedoors.meeting import tables_of_ticks
from timedoors.stretches import index_in, indexes_in_order, rises, table_of_presses


def rest_table(level, presses):
    check_level(level)
    check_presses(level, presses)
    machine = Machine(level)
    rests = rests_from(machine, tables_of_ticks(machine, presses), no_rest(machine))
    return told_row(machine.rights, machine.lefts, rests[0])


def told_row(came, sent, row):
    """A row as it is handed out: for each set that came in, in order, what is sent."""
    return [(lights_by_index(came, at), lights_by_index(sent, row[at])) for at in indexes_in_order(came)]


def row_in(came, sent, value):
    """The row that a value tells, `None` if it is none."""
    if not isinstance(value, list) or len(value) != 1 << len(came):
        return None
    row = list(range(len(value)))
    for at, line in zip(indexes_in_order(came), value):
        if not is_tuple_of(2, line) or index_in(came, line[0]) != at:
            return None
        row[at] = index_in(sent, line[1])
    return row if rises(row) else None


def is_rest(level, value):
    check_level(level)
    machine = Machine(level)
    return row_in(machine.rights, machine.lefts, value) is not None


def is_front(level, value):
    check_level(level)
    machine = Machine(level)
    return row_in(machine.lefts, machine.rights, value) is not None


def checked_rest(machine, rest):
    row = row_in(machine.rights, machine.lefts, rest)
    if row is None:
        raise InvalidTable(rest)
    return row


def checked_front(machine, front):
    row = row_in(machine.lefts, machine.rights, front)
    if row is None:
        raise InvalidTable(front)
    return row


def rest_ahead(level, lights, rest):
    check_level(level)
    check_lights(level, lights)
    machine = Machine(level)
    row = checked_rest(machine, rest)
    row = rest_before(machine, machine.table_of_tick(mask_of(lights)), row)
    return told_row(machine.rights, machine.lefts, row)


def front_table(level, presses):
    check_level(level)
    check_presses(level, presses)
    machine = Machine(level)
    front = no_front(machine)
    for table in tables_of_ticks(machine, presses):
        front = front_after(machine, front, table)
    return told_row(machine.lefts, machine.rights, front)


def front_behind(level, front, lights):
    check_level(level)
    machine = Machine(level)
    row = checked_front(machine, front)
    check_lights(level, lights)
    row = front_after(machine, row, machine.table_of_tick(mask_of(lights)))
    return told_row(machine.lefts, machine.rights, row)


def lit_between(level, front, lights, rest):
    check_level(level)
    machine = Machine(level)
    front_row = checked_front(machine, front)
    check_lights(level, lights)
    rest_row = checked_rest(machine, rest)
    lit, _, _ = settle_between(machine, front_row, mask_of(lights), rest_row)
    return lights_of(lit)


def settled(level, presses):
    check_level(level)
    check_presses(level, presses)
    if len(presses) == 0:
        raise InvalidPresses(presses)
    machine = Machine(level)
    rest, many = settled_row(machine, presses)
    return told_row(machine.rights, machine.lefts, rest), many


def settled_row(machine, presses):
    """The rest row to which presses settle, done again and again, and how often they are done until then."""
    once = table_of_presses(machine, presses)
    rest = no_rest(machine)
    more = rest_before(machine, once, rest)
    many = 0
    while more != rest:
        rest = more
        more = rest_before(machine, once, rest)
        many += 1
    return rest, many
