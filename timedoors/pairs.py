"""Pairs of what may follow behind some ticks: the rest rows (see meeting) of two lists over the letters of one length.

Some ticks tell two rest rows apart if watched rooms are lit unlike at the last one of them, ahead of the one and of the
other one. What is lit unlike at an earlier tick is found with fewer ticks: those behind it then belong to both lists.
Letters and rest rows are told by their numbers here, pairs of unlike rest rows by theirs, the lesser row ahead.
"""

from timedoors.masks import mask_of
from timedoors.meeting import no_rest, rest_before
from timedoors.search import all_states, marks_to, waves_met
from timedoors.views import Views


class Pairs:
    """All pairs for some letters, and how few ticks tell them apart."""

    def __init__(self, level, letters, watched):
        self.views = Views(level)
        self.masks = [mask_of(lights) for lights in letters]
        self.watched = mask_of(watched)
        self.rests, self.ahead = rests_met(self.views.machine, self.masks)
        waves, self.came = pairs_met(self.ahead)
        self.lengths = {pair: length for length, wave in enumerate(waves) for pair in wave if pair[0] < pair[1]}
        self.pairs = list(self.lengths)
        numbers = {pair: number for number, pair in enumerate(self.pairs)}
        self.steps = [steps_ahead(self.ahead, numbers, pair) for pair in self.pairs]
        self.fronts, self.front_came = fronts_met(self.views, self.masks)
        self.classes = self.classes_by_ticks()

    def classes_by_ticks(self):
        """For each number of ticks the class of each rest row: so many ticks, or fewer, tell unlike ones apart."""
        classes = [[0 for _ in self.rests]]
        for fronts in self.fronts:
            told = classes[-1]
            for front in fronts:
                for mask in self.masks:
                    told = split_classes(told, self.shown(front, mask))
            classes.append(told)
        return classes

    def shown(self, front, mask):
        """What is lit of the watched rooms at the tick behind a front, for each rest row behind this tick."""
        lits, _, sent = self.views.of_tick(front, mask)
        seen = [lit & self.watched for lit in lits]
        if min(seen) == max(seen):
            return [0 for _ in self.rests]
        shown = []
        for rest in self.rests:
            back = 0
            while rest[sent[back]] != back:
                back = rest[sent[back]]
            shown.append(seen[back])
        return shown

    def ticks_apart(self, pair):
        """How few ticks tell a pair apart; more than ever do if none do."""
        one, other = pair
        low, high = 0, len(self.classes)
        # What some ticks tell apart, more ticks do, too.
        while high - low > 1:
            middle = (low + high) // 2
            if self.classes[middle][one] == self.classes[middle][other]:
                low = middle
            else:
                high = middle
        return high

    def list_apart(self, pair):
        """A list over the letters, as short as can be, that tells a pair apart."""
        one, other = pair
        for front in self.fronts[self.ticks_apart(pair) - 1]:
            for letter, mask in enumerate(self.masks):
                shown = self.shown(front, mask)
                if shown[one] != shown[other]:
                    return marks_to(self.front_came, front) + [letter]
        return None


def rests_met(machine, masks):
    """All rest rows of lists over letters, and for each letter the numbers of those of one tick more, ahead."""
    tables = [machine.table_of_tick(mask) for mask in masks]

    def follow(rest):
        return [(number, tuple(rest_before(machine, table, rest))) for number, table in enumerate(tables)]

    rests = all_states(tuple(no_rest(machine)), follow)
    numbers = {rest: number for number, rest in enumerate(rests)}
    ahead = [[numbers[told[letter][1]] for told in rests.values()] for letter in range(len(masks))]
    return list(rests), ahead


def pairs_met(ahead):
    """All pairs of numbers of rest rows, in waves, and how each one comes; the first rest row is that of no ticks."""
    letters = list(range(len(ahead)))

    def follow(pair):
        one, other = pair
        return [((first, second), (ahead[first][one], ahead[second][other])) for first in letters for second in letters]

    return waves_met((0, 0), follow)


def steps_ahead(ahead, numbers, pair):
    """For each letter the number of the pair that it makes, ahead of a pair, or `None` if it makes both alike."""
    one, other = pair
    made = [(row[one], row[other]) for row in ahead]
    return [numbers.get((min(both), max(both))) for both in made]


def fronts_met(views, masks):
    """All fronts of lists over letters, in waves, and how each one comes."""

    def follow(front):
        return [(number, views.of_tick(front, mask)[2]) for number, mask in enumerate(masks)]

    return waves_met(views.first_front(), follow)


def split_classes(classes, signs):
    """Classes in which only what is of one class and has one sign is alike, numbered as they come first."""
    numbers = {}
    return [numbers.setdefault(both, len(numbers)) for both in zip(classes, signs)]
