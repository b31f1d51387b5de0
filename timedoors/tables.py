"""Tables of stretches: what some ticks send left and right, whatever comes in."""

from timedoors.checks import check_level, check_presses
from timedoors.errors import InvalidTable
from timedoors.machine import Machine
from timedoors.stretches import join, no_ticks, table_in, table_of_presses, told_table


def is_table(level, value):
    check_level(level)
    return table_in(Machine(level), value) is not None


def table_of(level, presses):
    check_level(level)
    check_presses(level, presses)
    machine = Machine(level)
    return told_table(machine, table_of_presses(machine, presses))


def joined(level, one, other):
    check_level(level)
    machine = Machine(level)
    first = checked_table(machine, one)
    second = checked_table(machine, other)
    return told_table(machine, join(machine, first, second))


def checked_table(machine, value):
    table = table_in(machine, value)
    if table is None:
        raise InvalidTable(value)
    return table


def repeats(level, presses):
    check_level(level)
    check_presses(level, presses)
    machine = Machine(level)
    once = table_of_presses(machine, presses)
    numbers = {}
    table = no_ticks(machine)
    while table not in numbers:
        numbers[table] = len(numbers)
        table = join(machine, table, once)
    # A dict keeps the order in which its keys came: so the tables stand in it as they were met.
    tables = list(numbers)
    start = numbers[table]
    ahead = [told_table(machine, told) for told in tables[:start]]
    return ahead, [told_table(machine, told) for told in tables[start:]]


def can_stand_for(level, one, other):
    check_level(level)
    check_presses(level, one)
    check_presses(level, other)
    machine = Machine(level)
    return table_of_presses(machine, one) == table_of_presses(machine, other)
