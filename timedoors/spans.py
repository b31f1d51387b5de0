"""Stretches with a mark for each P and Q: at how many of their ticks a room is lit, or at which one first or last."""

from timedoors.stretches import meetings, no_ticks, told_at


class Span:
    """A table, how many ticks it is of, and its marks, which stand as in the rows of the table."""

    def __init__(self, table, many, marks):
        self.table = table
        self.many = many
        self.marks = marks


def span_of_no_ticks(machine, dark_mark):
    table = no_ticks(machine)
    return Span(table, 0, [dark_mark for _ in table[0]])


def span_of_tick(machine, pressed, room, dark_mark, lit_mark):
    table = machine.table_of_tick(pressed)
    marks = []
    for right in range(1 << len(machine.rights)):
        for left in range(1 << len(machine.lefts)):
            lit, _, _ = machine.let_in(pressed, right, left)
            marks.append(lit_mark if lit >> room & 1 else dark_mark)
    return Span(table, 1, marks)


def join_spans(machine, one, other, putting):
    places = meetings(machine, one.table, other.table)
    marks = [putting(one.marks[here], other.marks[there], one.many) for here, there in places]
    return Span(told_at(one.table, other.table, places), one.many + other.many, marks)


def join_counts(machine, one, other):
    return join_spans(machine, one, other, counted)


def join_firsts(machine, one, other):
    return join_spans(machine, one, other, earlier)


def join_lasts(machine, one, other):
    return join_spans(machine, one, other, later)


def counted(one, other, many):
    """How many there are in both; how many ticks lie ahead of the other ones does not matter."""
    return one + other


def earlier(one, other, many):
    if one is not None or other is None:
        return one
    return many + other


def later(one, other, many):
    return one if other is None else many + other
