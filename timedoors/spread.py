"""How light comes: round by round over the ticks of presses."""

from timedoors.masks import door_masks, lights_of, mask_of


def waves_of(level, presses):
    """For each round the tuples (tick, mask) of what gets lit in it; the round 0 has all ticks."""
    doors = door_masks(level)
    return waves_from([doors for _ in presses], [mask_of(lights) for lights in presses])


def waves_from(doors_at, pressed):
    """The rounds of what the doors that there are at each tick give from a mask at each tick."""
    lit = list(pressed)
    wave = list(enumerate(lit))
    waves = []
    while len(wave) > 0:
        waves.append(wave)
        given = given_by(doors_at, lit, wave)
        wave = [(tick, given[tick] & ~lit[tick]) for tick in sorted(given) if given[tick] & ~lit[tick]]
        for tick, mask in wave:
            lit[tick] |= mask
    return waves


def given_by(doors_at, lit, wave):
    """What doors give from the ticks of the last round: from others nothing new can come."""
    given = {}
    for tick, _ in wave:
        for needs, gives, shift in doors_at[tick]:
            goal = tick + shift
            if lit[tick] & needs == needs and 0 <= goal < len(lit):
                given[goal] = given.get(goal, 0) | gives
    return given


def light_masks(level, presses):
    """The light, a mask for each tick."""
    return masks_of_waves(len(presses), waves_of(level, presses))


def masks_of_waves(ticks, waves):
    lit = [0 for _ in range(ticks)]
    for wave in waves:
        for tick, mask in wave:
            lit[tick] |= mask
    return lit


def round_numbers(level, presses):
    """For each tick and room the number of the round in which it is lit first, `None` if it is dark."""
    numbers = [[None for _ in range(level[0])] for _ in presses]
    for number, wave in enumerate(waves_of(level, presses)):
        for tick, mask in wave:
            for room in lights_of(mask):
                numbers[tick][room] = number
    return numbers
