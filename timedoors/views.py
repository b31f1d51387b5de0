"""Ticks with a told front ahead of them, for each lot of left rooms that may come in from behind.

A lot of left rooms is told by its index (see machine), several lots by a mask: the bit with the index of a
lot is set if it is among them. Fronts are tuples here, so that they can be looked up.
"""

from timedoors.machine import Machine


class Views:
    """A machine with all single ticks behind fronts that have been looked at so far."""

    def __init__(self, level):
        self.machine = Machine(level)
        self.seen = {}

    def first_front(self):
        """The front of no ticks."""
        return tuple([0 for _ in range(1 << len(self.machine.lefts))])

    def all_lots(self):
        return (1 << (1 << len(self.machine.lefts))) - 1

    def of_tick(self, front, pressed):
        """For each lot from behind what is lit at a tick, what it sends left, what it sends right: three tuples."""
        place = (front, pressed)
        if place not in self.seen:
            self.seen[place] = look_at(self.machine, front, pressed)
        return self.seen[place]


def look_at(machine, front, pressed):
    machine.make_masks()
    told = []
    for coming in machine.left_masks:
        right = 0
        lit, left, sent = machine.settle(pressed | coming)
        while front[left] != right:
            right = front[left]
            lit, left, sent = machine.settle(pressed | coming | machine.right_masks[right])
        told.append((lit, left, sent))
    lits = tuple([lit for lit, _, _ in told])
    return lits, tuple([left for _, left, _ in told]), tuple([sent for _, _, sent in told])


def lots_behind(lefts, lots):
    """The lots that, coming in at a tick, make it send left one of the told lots."""
    behind = 0
    for at, left in enumerate(lefts):
        if lots >> left & 1:
            behind |= 1 << at
    return behind


def lots_lighting(lits, room):
    """The lots with which a room is lit at a tick."""
    lots = 0
    for at, lit in enumerate(lits):
        if lit >> room & 1:
            lots |= 1 << at
    return lots
