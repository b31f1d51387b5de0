"""Going on from state to state, breadth first.

`follow` is a function that tells, for a state, the list of tuples of a mark and of the state to which it
leads, the marks ascending.
"""


def first_marks(start, follow, is_found):
    """The first list of marks, shorter ones first, that leads to what is found, `None` if none does."""
    came = {start: None}
    wave = [start]
    while len(wave) > 0:
        # All is met in the order of its first marks.
        for state in wave:
            if is_found(state):
                return marks_to(came, state)
        wave = wave_behind(wave, follow, came)
    return None


def wave_behind(wave, follow, came):
    """The states that follow a wave and are new to `came`, which then tells how each of them comes."""
    coming = []
    for state in wave:
        for mark, later in follow(state):
            if later not in came:
                came[later] = (mark, state)
                coming.append(later)
    return coming


def marks_to(came, state):
    marks = []
    while came[state] is not None:
        mark, state = came[state]
        marks.append(mark)
    marks.reverse()
    return marks


def waves_met(start, follow):
    """All states in waves, by how many marks lead to each, and how each of them comes."""
    came = {start: None}
    waves = []
    wave = [start]
    while len(wave) > 0:
        waves.append(wave)
        wave = wave_behind(wave, follow, came)
    return waves, came


def all_states(start, follow):
    """All states that are met, each with the list of what follows it."""
    met = {}
    wave = [start]
    while len(wave) > 0:
        coming = []
        for state in wave:
            if state not in met:
                met[state] = follow(state)
                coming.extend([later for _, later in met[state]])
        wave = coming
    return met


def leads_to(start, follow, is_found, met):
    """Whether what is found is met from a state on; `met` holds all states that were met in vain, and gets more."""
    coming = [start]
    while len(coming) > 0:
        state = coming.pop()
        if is_found(state):
            return True
        if state not in met:
            met[state] = True
            coming.extend([later for _, later in follow(state)])
    return False
