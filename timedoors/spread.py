"""How light comes: round by round over the ticks of presses."""

from timedoors.masks import door_masks, lights_of, mask_of


def waves_of(level, presses):
    """For each round the tuples (tick, mask) of what gets lit in it; the round 0 has all ticks."""
    doors = door_masks(level)
    lit = [mask_of(lights) for lights in presses]
    wave = list(enumerate(lit))
    waves = []
    while len(wave) > 0:
        waves.append(wave)
        given = given_by(doors, lit, wave)
        wave = [(tick, given[tick] & ~lit[tick]) for tick in sorted(given) if given[tick] & ~lit[tick]]
        for tick, mask in wave:
            lit[tick] |= mask
    return waves


def given_by(doors, lit, wave):
    """What doors give from the ticks of the last round: from others nothing new can come."""
    given = {}
    for tick, _ in wave:
        for needs, gives, shift in doors:
            goal = tick + shift
            if lit[tick] & needs == needs and 0 <= goal < len(lit):
                given[goal] = given.get(goal, 0) | gives
    return given


def light_masks(level, presses):
    """The light, a mask for each tick."""
    lit = [0 for _ in presses]
    for wave in waves_of(level, presses):
        for tick, mask in wave:
            lit[tick] |= mask
    return lit


def round_numbers(level, presses):
    """For each tick and room the number of the round in which it is lit first, `None` if it is dark."""
    numbers = [[None for _ in range(level[0])] for _ in presses]
    for number, wave in enumerate(waves_of(level, presses)):
        for tick, mask in wave:
            for room in lights_of(mask):
                numbers[tick][room] = number
    return numbers
