"""How what comes from ahead and what comes from behind meet: all grows from nothing on until it fits."""

from timedoors.masks import mask_of


def no_rest(machine):
    """The rest row of no ticks: nothing is sent left, whatever comes in."""
    return [0 for _ in range(1 << len(machine.rights))]


def no_front(machine):
    """The front row of no ticks: nothing is sent right, whatever comes in."""
    return [0 for _ in range(1 << len(machine.lefts))]


def tables_of_ticks(machine, presses):
    return [machine.table_of_tick(mask_of(lights)) for lights in presses]


def rest_before(machine, table, rest):
    """The rest row of a stretch with a told table, ahead of what has a told rest row."""
    width = len(machine.lefts)
    left_row, right_row = table
    sent = []
    for coming in range(len(rest)):
        start = coming << width
        back = 0
        while rest[right_row[start | back]] != back:
            back = rest[right_row[start | back]]
        sent.append(left_row[start | back])
    return sent


def rests_from(machine, tables, rest):
    """For each stretch the rest row from it on, the told one behind the last of them; this one is the last item."""
    rests = [rest]
    for table in reversed(tables):
        rests.append(rest_before(machine, table, rests[-1]))
    rests.reverse()
    return rests


def front_after(machine, front, table):
    """The front row of a stretch with a told table, behind what has a told front row."""
    width = len(machine.lefts)
    left_row, right_row = table
    sent = []
    for coming in range(len(front)):
        onward = 0
        while front[left_row[onward << width | coming]] != onward:
            onward = front[left_row[onward << width | coming]]
        sent.append(right_row[onward << width | coming])
    return sent


def settle_between(machine, front, pressed, rest):
    """What is lit at a tick between a front row and a rest row, and what comes in from left and right."""
    right, left = 0, 0
    lit, sent_left, sent_right = machine.let_in(pressed, right, left)
    while front[sent_left] != right or rest[sent_right] != left:
        right, left = front[sent_left], rest[sent_right]
        lit, sent_left, sent_right = machine.let_in(pressed, right, left)
    return lit, right, left


def settle_onward(machine, coming, pressed, rest):
    """What is lit at a tick, and what it sends right, if just `coming` comes in from the left."""
    left = 0
    lit, _, sent = machine.let_in(pressed, coming, left)
    while rest[sent] != left:
        left = rest[sent]
        lit, _, sent = machine.let_in(pressed, coming, left)
    return lit, sent


def ticks_of(machine, presses):
    """What is walked along here: for each tick the machine of its doors, and the mask that is pressed."""
    return [(machine, mask_of(lights)) for lights in presses]


def rests_along(ticks, rest):
    """For each tick the rest row from it on, the told one behind the last of them; this one is the last item."""
    rests = [rest]
    for machine, pressed in reversed(ticks):
        rests.append(rest_before(machine, machine.table_of_tick(pressed), rests[-1]))
    rests.reverse()
    return rests


def lit_onward(ticks, rest, coming):
    """The masks that are lit at ticks ahead of a rest row, and what they send right in the end."""
    rests = rests_along(ticks, rest)
    masks = []
    for tick, (machine, pressed) in enumerate(ticks):
        lit, coming = settle_onward(machine, coming, pressed, rests[tick + 1])
        masks.append(lit)
    return masks, coming


def settled_along(ticks):
    """The rest row to which ticks settle, done again and again, going on from nothing."""
    rest = no_rest(ticks[0][0])
    more = rests_along(ticks, rest)[0]
    while more != rest:
        rest = more
        more = rests_along(ticks, rest)[0]
    return rest


def lit_for_ever(ahead, turn):
    """The masks at the ticks ahead and those of a round, if the ticks of `turn` come again and again."""
    rest = settled_along(turn)
    lit, coming = lit_onward(ahead, rest, 0)
    starts = {}
    # A round that begins with the same coming in from the left goes as it went before.
    while coming not in starts:
        starts[coming] = len(lit)
        masks, coming = lit_onward(turn, rest, coming)
        lit.extend(masks)
    return lit[:starts[coming]], lit[starts[coming]:]
