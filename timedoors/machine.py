"""A level as a plain machine for one tick: what comes in, what is lit, what is sent on.

Sets of right rooms and of left ones are told by an index here: the bit k of it is the item k of the
ascending list of these rooms. So a whole table is a row of small numbers.
"""

from timedoors.levels import rooms_of_shift
from timedoors.masks import mask_of


class Machine:
    """The doors of a level, with what has been worked out of single ticks so far.

    If the level is a part of another one, a part with less doors, `whole` is this one: its rights and lefts count.
    """

    def __init__(self, level, whole=None):
        sides = level if whole is None else whole
        self.rights = rooms_of_shift(sides, 1)
        self.lefts = rooms_of_shift(sides, -1)
        self.now = [(mask_of(needs), 1 << room) for needs, room, shift in level[1] if shift == 0]
        self.onward = sending_doors(level, 1, self.rights)
        self.backward = sending_doors(level, -1, self.lefts)
        self.right_masks = []
        self.left_masks = []
        self.known = {}
        self.tables = {}

    def settle(self, mask):
        """What is lit at a tick with at least `mask` lit, and the indexes of what is sent left and right."""
        told = self.known.get(mask)
        if told is None:
            lit = self.closed(mask)
            told = (lit, sent_by(self.backward, lit), sent_by(self.onward, lit))
            self.known[mask] = told
        return told

    def closed(self, mask):
        lit = mask | sent_by(self.now, mask)
        while lit != mask:
            mask = lit
            lit = mask | sent_by(self.now, mask)
        return lit

    def table_of_tick(self, pressed):
        """The table of one tick: for each index of P and Q what it sends left, and what right."""
        if pressed not in self.tables:
            self.make_masks()
            sent = [self.settle(pressed | right | left) for right in self.right_masks for left in self.left_masks]
            self.tables[pressed] = (tuple([left for _, left, _ in sent]), tuple([right for _, _, right in sent]))
        return self.tables[pressed]

    def make_masks(self):
        """Only here, as a level beyond the limits may be refused for something else before."""
        if len(self.right_masks) == 0:
            self.right_masks = masks_by_index(self.rights)
            self.left_masks = masks_by_index(self.lefts)

    def let_in(self, pressed, right, left):
        """What settles at a tick if rooms of these two indexes come in."""
        return self.settle(pressed | mask_of_index(self.rights, right) | mask_of_index(self.lefts, left))


def sending_doors(level, wanted, goals):
    return [(mask_of(needs), 1 << goals.index(room)) for needs, room, shift in level[1] if shift == wanted]


def sent_by(doors, lit):
    sent = 0
    for needs, gives in doors:
        if lit & needs == needs:
            sent |= gives
    return sent


def masks_by_index(rooms):
    return [mask_of_index(rooms, index) for index in range(1 << len(rooms))]


def mask_of_index(rooms, index):
    return mask_of(lights_by_index(rooms, index))


def lights_by_index(rooms, index):
    """A new list of the rooms that an index stands for."""
    return [room for at, room in enumerate(rooms) if index >> at & 1]
