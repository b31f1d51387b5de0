"""[3], [4] and the limits of the points from [52] on: each function works up to them within seconds."""

import random
import unittest

from tests.helpers import some_presses
from tests.plain_darks import wavering_levels
from tests.test_limits import HUGE, Timed, widest_level
from tests.wide_darks import MANY_LOTS, MANY_RESTS, MANY_STATES, TWO_PAIRS
from timedoors import founded, horizon, layered, layers, lines, longdoors, paradox, play, seen
from timedoors.levels import left_rooms, right_rooms


def widest_dark_level(draw, rooms, doors):
    made = []
    for _ in range(doors):
        lots = [sorted(draw.sample(range(rooms), draw.choice((0, 1, 2)))) for _ in range(2)]
        made.append((*lots, draw.randrange(rooms), draw.choice((-1, 0, 1))))
    return rooms, made


def going_up(draw):
    """A dark level of 6 rooms and 12 doors that has layers, with 8 right and left rooms."""
    doors = []
    for room, shift in [(room, 1) for room in (0, 1, 3, 5)] + [(room, -1) for room in (1, 2, 4, 5)]:
        doors.append(([draw.randrange(room + 1)], sorted(draw.sample(range(room), min(room, 1))), room, shift))
    for _ in range(4):
        room = draw.randrange(1, 6)
        doors.append((sorted(draw.sample(range(room + 1), 1)), sorted(draw.sample(range(room), 1)), room, 0))
    return 6, doors


class Ahead(Timed):

    def test_52_six_doors_and_three_letters(self):
        draw = random.Random(52)
        rows = list(MANY_RESTS)
        for _ in range(6):
            _, doors = widest_level(draw, 3)
            rows.append(((6, draw.sample(doors, 6)), [[], [0], [1, 2]]))
        for level, letters in rows:
            for watched in ([0, 1, 2, 3, 4, 5], [draw.randrange(6)]):
                self.timed(horizon.fewest_time_doors, level, letters, watched)
                far = self.timed(horizon.horizon, level, letters, watched)
                self.assertEqual(self.timed(horizon.hangs_ahead, level, letters, watched), far != 0)
                for ticks in (0, 5, 20):
                    told = self.timed(horizon.unlike_ahead, level, letters, watched, ticks)
                    self.assertEqual(told is None, far is not None and ticks >= far)


class Far(Timed):

    def test_55_twelve_long_doors_in_30_ticks(self):
        draw = random.Random(55)
        for _ in range(5):
            doors = [(sorted(draw.sample(range(6), draw.choice((0, 1, 2)))), draw.randrange(6), draw.choice((-9, -8, 8, 9)))
                     for _ in range(12)]
            presses = [sorted(draw.sample(range(6), draw.choice((0, 0, 1)))) for _ in range(30)]
            lit = self.timed(longdoors.long_light, (6, doors), presses)
            near = self.timed(longdoors.near_level, (6, doors))
            self.assertEqual([[room for room in lights if room < 6]
                              for lights in self.timed(longdoors.long_light, near, presses)], lit)
            self.assertEqual(self.timed(longdoors.long_light, self.timed(longdoors.mirrored, (6, doors)), presses[::-1]),
                             lit[::-1])
            self.timed(longdoors.slowed, (6, doors), 1)

    def test_57_twelve_runs_of_30_figures(self):
        draw = random.Random(57)
        for doors in ([([0], 1, 4), ([1], 0, -4)], [([0], 0, 8)], [([0, 1], 2, -8)], [([0], 1, 3), ([1], 2, -3), ([2], 0, 2)],
                      [([0], 0, 1), ([0], 1, -1), ([1], 2, -4), ([2], 2, 2)] + [([0, 1], 5, 0)] * 8):
            level = (6, doors)
            near = longdoors.near_level(level)
            self.assertLessEqual(len(right_rooms(near)) + len(left_rooms(near)), 8)
            runs = [(draw.choice(([], [0], [1], [0, 2])), draw.randint(10 ** 29, HUGE)) for _ in range(12)]
            ticks = sum(many for _, many in runs)
            for room in range(3):
                reach = self.timed(longdoors.reach_of, level, runs, room)
                if reach is not None:
                    for tick in reach:
                        self.assertIn(room, self.timed(longdoors.long_far_light, level, runs, tick))
                    for tick in (reach[0] - 1, reach[1] + 1):
                        if 0 <= tick < ticks:
                            self.assertNotIn(room, self.timed(longdoors.long_far_light, level, runs, tick))


class Layered(Timed):

    def test_59_six_rooms_and_twelve_doors(self):
        draw = random.Random(59)
        for _ in range(60):
            level = widest_dark_level(draw, 6, 12)
            told, ring = self.timed(layers.layers, level), self.timed(layers.dark_ring, level)
            self.assertEqual(told is None, ring is not None)
            self.assertTrue(self.timed(layers.are_layers, level, told) or self.timed(layers.is_dark_ring, level, ring))
            for room in range(6):
                self.timed(layered.swayed, level, room, 5 - room)

    def test_61_thirty_ticks_and_endless_presses_of_12_and_12(self):
        draw = random.Random(61)
        for _ in range(12):
            level = going_up(draw)
            presses = [sorted(draw.sample(range(6), draw.choice((0, 0, 1)))) for _ in range(30)]
            told = self.timed(layered.layered_history, level, presses)
            self.assertEqual(self.timed(layered.layered_by, level, [0, 1, 2, 3, 4, HUGE], presses), told)
            self.assertTrue(self.timed(layered.is_layered_history, level, presses, told))
            ahead, turn = self.timed(layered.layered_endless, level, (presses[:12], presses[12:24]))
            self.assertLessEqual(len(ahead) + len(turn), 12 + 12 * 2 ** 4)

    def test_63_eight_right_rooms_of_one_layer(self):
        draw = random.Random(63)
        for _ in range(4):
            # Wheels of 3 and of 5 rooms: they come round together after 15 ticks, with what is pressed after 165.
            doors = [([room], [], (room + 1) % 3, 1) for room in range(3)]
            doors += [([3 + room], [], 3 + (room + 1) % 5, 1) for room in range(5)] + [([0], [3], 8, 0), ([8], [4], 9, 0)]
            presses = [[0, 3]] + [sorted(draw.sample(range(10), draw.choice((0, 0, 0, 1)))) for _ in range(22)]
            ahead, turn = self.timed(layered.layered_endless, (10, doors), (presses[:12], presses[12:]))
            self.assertLessEqual(len(ahead) + len(turn), 12 + 11 * 2 ** 8)


class Founded(Timed):

    def test_64_thirty_ticks_with_many_states(self):
        draw = random.Random(64)
        for level, letters in MANY_STATES + MANY_LOTS + [(TWO_PAIRS, [[], [0], [0, 1], [2]])]:
            for presses in ([draw.choice(letters) for _ in range(30)], [draw.choice(letters[1:]) for _ in range(30)], [[]] * 30):
                many = self.timed(founded.how_many_founded, level, presses)
                first = self.timed(founded.first_founded, level, presses)
                both = self.timed(founded.agreeing, level, presses)
                self.assertEqual([first is None, both is None, self.timed(paradox.is_paradox, level, presses)], [many == 0] * 3)
                if first is not None:
                    self.assertTrue(self.timed(founded.is_founded, level, presses, first))
                    self.assertEqual(self.timed(founded.founded_light, level, presses, first), first)
                if many <= 100:
                    self.assertEqual(len(self.timed(founded.all_founded, level, presses)), many)
                counts = self.timed(founded.founded_counts, level, presses, 60)
                self.assertEqual([len(counts), counts[30]], [61, many])

    def test_68_many_lots_of_states(self):
        draw = random.Random(68)
        for level, letters in MANY_STATES + MANY_LOTS + [(TWO_PAIRS, [[], [0], [0, 1], [2]])]:
            first = self.timed(paradox.first_paradox, level, letters)
            self.assertTrue(first is None or self.timed(paradox.is_paradox, level, first))
            for turn in ([draw.choice(letters) for _ in range(30)], letters, [[]]):
                ahead, again = self.timed(paradox.founded_ticks, level, turn)
                least = self.timed(paradox.least_paradox, level, turn)
                self.assertEqual(least is None, all(ahead + again))

    def test_70_thirty_ticks(self):
        draw = random.Random(70)
        for level, letters in MANY_STATES + MANY_LOTS + [(TWO_PAIRS, [[], [0], [0, 1], [2]])]:
            for presses in ([draw.choice(letters) for _ in range(30)], [[]] * 30):
                forced = self.timed(paradox.forced_by, level, presses)
                freed = self.timed(paradox.freed_by, level, presses)
                self.assertEqual(len(forced) + len(freed), 120 - sum(map(len, presses)))


class Seen(Timed):

    def test_71_six_ticks_and_256_histories(self):
        draw = random.Random(71)
        presses = [[], [], [0, 2], [], [1, 3], []]
        histories = self.timed(seen.agreeing_with, TWO_PAIRS, presses, [])
        self.assertEqual(len(histories), 256)
        looks = [(tick, room) for tick in range(6) for room in range(4)]
        for wavering in (0, 4, 10, 24):
            turned = draw.sample(looks, wavering)
            sights = [(tick, room, (room in histories[7][tick]) != ((tick, room) in turned)) for tick, room in looks]
            for function in (seen.how_many_agree, seen.sure_lights, seen.open_lights, seen.worth_looking, seen.best_looks,
                             seen.clash, seen.looks_needed):
                self.timed(function, TWO_PAIRS, presses, sights)
            self.timed(seen.agrees, TWO_PAIRS, presses, sights, histories[7])
        self.assertEqual(len(self.timed(seen.best_looks, TWO_PAIRS, presses, [])), 16)
        self.assertTrue(self.timed(seen.tells_apart, TWO_PAIRS, presses, looks))
        self.assertFalse(self.timed(seen.is_needed_look, TWO_PAIRS, presses, looks, 0, 0))
        self.assertTrue(self.timed(seen.is_needed_look, TWO_PAIRS, presses, looks[::2], 0, 0))
        self.assertEqual(self.timed(seen.crossed, TWO_PAIRS, presses, histories[0], histories[-1], 2),
                         histories[0][:3] + histories[-1][3:])

    def test_73_twelve_histories_in_six_ticks(self):
        draw = random.Random(73)
        found = 0
        for level in wavering_levels(731, 300, 4, 8):
            presses = some_presses(draw, level[0], 6)
            if 7 <= founded.how_many_founded(level, presses) <= 12:
                found += 1
                told = self.timed(seen.fewest_looks, level, presses)
                self.assertTrue(self.timed(seen.tells_apart, level, presses, told))
                self.assertLessEqual(self.timed(seen.looks_needed, level, presses, []), len(told))
        self.assertGreater(found, 8)


class Live(Timed):

    def test_77_900_characters(self):
        level = (6, [([0, 1, 2, 3, 4, 5], 5, -1)] * 12)
        text = self.timed(lines.recording, level, [[0, 1, 2, 3, 4, 5]] * 30)
        self.assertEqual(self.timed(lines.of_recording, text), (level, [[0, 1, 2, 3, 4, 5]] * 30))
        self.assertEqual(self.timed(lines.good_part, text[:-1])[2], len(text) - 12)
        far = self.timed(lines.good_part, "9" * 30 + ":\n" + "8" * 30 + "\n" + "7\n" * 400)
        self.assertEqual(far[1], [[int("8" * 30)]] + [[7]] * 400)
        self.assertEqual(self.timed(lines.good_part, "\n" * 900), (None, [], 0))

    def test_78_thirty_ticks_and_many_deeds(self):
        draw = random.Random(78)
        live = play.Play(widest_level(draw, 4))
        for number in range(600):
            if len(live.presses()) == 30:
                live.do(("cut", draw.randrange(30)))
            elif number % 7 == 0 and live.presses() and 0 not in live.presses()[0]:
                live.do(("press", 0, [0]))
            else:
                live.do(("tick", sorted(draw.sample(range(6), draw.choice((0, 1))))))
        while len(live.presses()) < 30:
            live.do(("tick", [1]))
        for method in (live.shown, live.seen_now, live.log, live.told, live.copy, live.presses):
            self.timed(method)
        self.timed(live.otherwise, ("cut", 0))
        self.timed(live.shown_at, 29)
        many = len(live.log())
        for _ in range(many):
            live.undo()
        self.assertEqual(live.presses(), [])
        for _ in range(many):
            live.redo()
        self.assertEqual(len(live.presses()), 30)


if __name__ == "__main__":
    unittest.main()
