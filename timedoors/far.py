"""Far ticks: presses told by runs, however long, by tables of twice and twice as many ticks."""

from timedoors.checks import check_level, check_room, check_runs, check_tick
from timedoors.kinds import is_tuple_of
from timedoors.levels import ticks_of_runs
from timedoors.machine import Machine, lights_by_index
from timedoors.masks import lights_of, mask_of
from timedoors.meeting import settle_between
from timedoors.spans import join_counts, join_firsts, join_lasts, span_of_no_ticks, span_of_tick
from timedoors.stretches import front_of, index_in, join, no_ticks, repeated, rest_of, told_table


def check_far(level, runs, tick):
    check_level(level)
    check_runs(level, runs)
    check_tick(ticks_of_runs(runs), tick)


def far_table(level, runs):
    check_level(level)
    check_runs(level, runs)
    machine = Machine(level)
    return told_table(machine, table_of_runs(machine, runs))


def table_of_runs(machine, runs):
    whole = no_ticks(machine)
    for lights, many in runs:
        once = machine.table_of_tick(mask_of(lights))
        whole = join(machine, whole, repeated(machine, once, many, no_ticks(machine), join))
    return whole


def far_light(level, runs, tick):
    check_far(level, runs, tick)
    lit, _, _ = meeting_at(Machine(level), runs, tick)
    return lights_of(lit)


def meeting_at(machine, runs, tick):
    """What is lit at a tick, and the indexes of what comes in from the left and from the right."""
    front, pressed, rest = sides_of(machine, runs, tick)
    return settle_between(machine, front, pressed, rest)


def sides_of(machine, runs, tick):
    """The front of the ticks ahead of a tick, what is pressed at it, the rest of those behind it."""
    ahead, lights, behind = parted(runs, tick)
    front = front_of(machine, table_of_runs(machine, ahead))
    return front, mask_of(lights), rest_of(machine, table_of_runs(machine, behind))


def parted(runs, tick):
    """The runs ahead of a tick, its lights, the runs behind it."""
    at = 0
    while tick >= runs[at][1]:
        tick -= runs[at][1]
        at += 1
    lights, many = runs[at]
    return runs[:at] + [(lights, tick)], lights, [(lights, many - tick - 1)] + runs[at + 1:]


def far_dark_paper(level, runs, tick, room):
    check_far(level, runs, tick)
    check_room(level, room)
    machine = Machine(level)
    lit, right, left = meeting_at(machine, runs, tick)
    if lit >> room & 1:
        return None
    return lights_by_index(machine.rights, right), lights_by_index(machine.lefts, left)


def is_far_dark(level, runs, tick, room, value):
    check_far(level, runs, tick)
    check_room(level, room)
    if not is_tuple_of(2, value):
        return False
    machine = Machine(level)
    right, left = index_in(machine.rights, value[0]), index_in(machine.lefts, value[1])
    if right is None or left is None:
        return False
    front, pressed, rest = sides_of(machine, runs, tick)
    lit, sent_left, sent_right = machine.let_in(pressed, right, left)
    if lit >> room & 1:
        return False
    return front[sent_left] & ~right == 0 and rest[sent_right] & ~left == 0


def times_lit(level, runs, room):
    check_level(level)
    check_runs(level, runs)
    check_room(level, room)
    return mark_of_runs(Machine(level), runs, room, (0, 1), join_counts)


def first_lit(level, runs, room):
    check_level(level)
    check_runs(level, runs)
    check_room(level, room)
    return mark_of_runs(Machine(level), runs, room, (None, 0), join_firsts)


def last_lit(level, runs, room):
    check_level(level)
    check_runs(level, runs)
    check_room(level, room)
    return mark_of_runs(Machine(level), runs, room, (None, 0), join_lasts)


def mark_of_runs(machine, runs, room, marks, joining):
    """The mark of all ticks of runs, nothing coming in from outside; `marks` are those of dark and of lit."""
    dark_mark, lit_mark = marks
    whole = nothing = span_of_no_ticks(machine, dark_mark)
    for lights, many in runs:
        once = span_of_tick(machine, mask_of(lights), room, dark_mark, lit_mark)
        whole = joining(machine, whole, repeated(machine, once, many, nothing, joining))
    return whole.marks[0]
