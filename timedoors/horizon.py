"""How far ahead: which time doors are needed, and how far behind a tick what it hangs on can be pressed."""

from timedoors.alike import Whole, all_lots, check_watched, letters_numbered
from timedoors.checks import check_count
from timedoors.pairs import Pairs
from timedoors.search import marks_to


def fewest_time_doors(level, letters, watched):
    check_watched(level, letters, watched)
    whole = Whole(level, letters, watched)
    times = [number for number, (_, _, shift) in enumerate(level[1]) if shift == -1]
    others = [number for number in range(len(level[1])) if number not in times]
    # All time doors together are enough, so some lot is found.
    lots = sorted(sorted(all_lots(len(times))), key=len)
    for lot in lots:
        kept = [times[at] for at in lot]
        if whole.is_like(sorted(others + kept)):
            return kept
    return times


def hangs_ahead(level, letters, watched):
    check_watched(level, letters, watched)
    return ticks_settled(Pairs(level, letters, watched)) != 0


def horizon(level, letters, watched):
    check_watched(level, letters, watched)
    return ticks_settled(Pairs(level, letters, watched))


def ticks_settled(pairs):
    """Behind how many ticks no pair is left that some ticks tell apart, `None` if there is one however many."""
    depths = depths_ahead(pairs.steps)
    never = len(pairs.classes)
    told = [depth for depth, pair in zip(depths, pairs.pairs) if pairs.ticks_apart(pair) < never]
    if None in told:
        return None
    return max([depth + 1 for depth in told], default=0)


def depths_ahead(steps):
    """For each number the greatest count of steps that lead to it, `None` if there are as many as one likes."""
    depths = [0 for _ in steps]
    leading = [0 for _ in steps]
    for row in steps:
        for later in row:
            if later is not None:
                leading[later] += 1
    waiting = [number for number, many in enumerate(leading) if many == 0]
    while len(waiting) > 0:
        number = waiting.pop()
        for later in steps[number]:
            if later is not None:
                depths[later] = max(depths[later], depths[number] + 1)
                leading[later] -= 1
                if leading[later] == 0:
                    waiting.append(later)
    # What is led to round and round is never all gone through.
    return [None if many > 0 else depth for many, depth in zip(leading, depths)]


def unlike_ahead(level, letters, watched, ticks):
    check_watched(level, letters, watched)
    check_count(ticks)
    pairs = Pairs(level, letters, watched)
    never = len(pairs.classes)
    rows = [[pairs.ticks_apart(pair) for pair in pairs.pairs]]
    while len(rows) <= ticks and min(rows[-1], default=never) < never:
        rows.append([least_of_steps(rows[-1], row, never) for row in pairs.steps])
    if min(rows[-1], default=never) == never:
        return None
    told = list(zip(pairs.pairs, rows[-1]))
    found = [(pairs.lengths[pair] + many, number) for number, (pair, many) in enumerate(told) if many < never]
    _, number = min(found)
    ends = marks_to(pairs.came, pairs.pairs[number])
    # What comes behind is told from the last tick on.
    ends.reverse()
    number, between = letters_between(pairs.steps, rows, number)
    ahead = pairs.list_apart(pairs.pairs[number])
    one = ahead + between + [first for first, _ in ends]
    other = ahead + between + [second for _, second in ends]
    return letters_numbered(letters, one), letters_numbered(letters, other), len(ahead) - 1


def least_of_steps(many, row, never):
    return min([many[later] for later in row if later is not None], default=never)


def letters_between(steps, rows, number):
    """The letters between that keep a pair apart by as few ticks as told, and the pair that they make."""
    letters = []
    many = rows[-1][number]
    for row in reversed(rows[:-1]):
        found = [letter for letter, later in enumerate(steps[number]) if later is not None and row[later] == many]
        letters = found[:1] + letters
        number = steps[number][found[0]]
    return number, letters
