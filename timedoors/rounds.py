"""Endless lists: some items ahead, and a round of items that come again and again."""

from timedoors.masks import lights_of


def made_plain(ahead, turn):
    """The shortest list ahead and the shortest round that tell the same endless list."""
    turn = turn[:shortest_turn(turn)]
    kept = len(ahead)
    # A last item that the round ends with, too, belongs to the round: it then begins one item earlier.
    while kept > 0 and ahead[kept - 1] == turn[-1]:
        turn = turn[-1:] + turn[:-1]
        kept -= 1
    return ahead[:kept], turn


def shortest_turn(turn):
    """How long the shortest list is that `turn` repeats."""
    for size in range(1, len(turn)):
        if len(turn) % size == 0 and turn[size:] == turn[:-size]:
            return size
    return len(turn)


def plain_lights(ahead, turn):
    """The plain endless history that the masks ahead and those of a round tell."""
    ahead, turn = made_plain(ahead, turn)
    return [lights_of(mask) for mask in ahead], [lights_of(mask) for mask in turn]
