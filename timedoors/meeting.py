"""How what comes from ahead and what comes from behind meet: all grows from nothing on until it fits."""


def rest_before(machine, table, rest):
    """The rest row of a stretch with a told table, ahead of what has a told rest row."""
    width = len(machine.lefts)
    left_row, right_row = table
    sent = []
    for coming in range(len(rest)):
        start = coming << width
        back = 0
        while rest[right_row[start | back]] != back:
            back = rest[right_row[start | back]]
        sent.append(left_row[start | back])
    return sent


def front_after(machine, front, table):
    """The front row of a stretch with a told table, behind what has a told front row."""
    width = len(machine.lefts)
    left_row, right_row = table
    sent = []
    for coming in range(len(front)):
        onward = 0
        while front[left_row[onward << width | coming]] != onward:
            onward = front[left_row[onward << width | coming]]
        sent.append(right_row[onward << width | coming])
    return sent


def settle_between(machine, front, pressed, rest):
    """What is lit at a tick between a front row and a rest row, and what comes in from left and right."""
    right, left = 0, 0
    lit, sent_left, sent_right = machine.let_in(pressed, right, left)
    while front[sent_left] != right or rest[sent_right] != left:
        right, left = front[sent_left], rest[sent_right]
        lit, sent_left, sent_right = machine.let_in(pressed, right, left)
    return lit, right, left
