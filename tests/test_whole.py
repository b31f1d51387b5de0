"""Over the whole program: the light of one level by all roads, and what is told of each of its rooms."""

import random
import unittest

from tests.helpers import (BACK, HALL, LOOP, RELAY, lefts_of, plain_light, plainly_keeps, presses_up_to, small_levels, some_levels,
                           some_presses)
from timedoors.endless import for_ever, stays_from
from timedoors.far import far_dark_paper, far_light, first_lit, is_far_dark, last_lit, times_lit
from timedoors.founded import agreeing, all_founded, founded_light, how_many_founded, is_founded
from timedoors.hands import first_shut, open_steps
from timedoors.houses import hands_light, is_walk
from timedoors.layered import is_layered_history, layered_by, layered_endless, layered_history
from timedoors.layers import with_darks
from timedoors.levels import left_rooms, right_rooms, spread_out
from timedoors.light import gained, how_many_keep, keeps, light
from timedoors.lines import good_part, of_recording
from timedoors.longdoors import long_far_light, long_light, mirrored, near_level, reach_of, slowed
from timedoors.paradox import is_paradox, least_paradox
from timedoors.play import Play
from timedoors.reasons import how_many_light, is_reason, presses_in, reasons, with_only
from timedoors.rescue import rescue, settled_past
from timedoors.rests import front_behind, front_table, lit_between, rest_ahead, rest_table
from timedoors.seen import agreeing_with, looks_needed, open_lights, sure_lights
from timedoors.tables import joined, table_of
from timedoors.texts import history_in, level_of_text, picture, presses_of_text, text_of_level, text_of_presses
from timedoors.trails import first_trail, givers, how_many_without, is_dark_paper, is_trail, trail_depth


def drawn_rows(seed):
    draw = random.Random(seed)
    rows = [(level, presses) for level in small_levels()[::60] for presses in presses_up_to(level[0], 1)]
    for level in some_levels(seed, 120, 4, 7) + [BACK, HALL, LOOP, RELAY]:
        rows.append((level, some_presses(draw, level[0], draw.randint(0, 5))))
    return rows


ROWS = drawn_rows(1)


def far_runs(presses):
    """The runs of presses, like ticks together."""
    runs = []
    for lights in presses:
        if runs and runs[-1][0] == lights:
            runs[-1] = (lights, runs[-1][1] + 1)
        else:
            runs.append((lights, 1))
    return runs


def played(level, presses):
    """A live play that comes to these presses by and by."""
    play = Play(level)
    for lights in presses:
        play.do(("tick", lights[:1]))
    for tick, lights in enumerate(presses):
        if lights[1:]:
            play.do(("press", tick, lights[1:]))
    return play


def by_tables(level, presses, tick):
    """What is lit at a tick between the tables of the ticks ahead and behind."""
    table, other = table_of(level, presses[:tick]), table_of(level, presses[tick + 1:])
    front = [(coming, right) for right_in, coming, _, right in table if right_in == []]
    rest = [(coming, left) for coming, left_in, left, _ in other if left_in == []]
    # Of no ticks what comes in goes through, so nothing comes in from there.
    front = front if tick > 0 else [(coming, []) for coming, _ in front]
    rest = rest if tick + 1 < len(presses) else [(coming, []) for coming, _ in rest]
    return lit_between(level, front, presses[tick], rest)


def by_walks(level, presses):
    """The two plain walks: rests from the end back, then fronts from the first tick on."""
    rests = [rest_table(level, [])]
    for lights in reversed(presses):
        rests.append(rest_ahead(level, lights, rests[-1]))
    front, lit = front_table(level, []), []
    for tick, lights in enumerate(presses):
        lit.append(lit_between(level, front, lights, rests[len(presses) - tick - 1]))
        front = front_behind(level, front, lights)
    return lit


class Roads(unittest.TestCase):

    def test_one_light_by_tables_and_far_ticks(self):
        for level, presses in ROWS:
            lit = light(level, presses)
            self.assertEqual(lit, plain_light(level, presses))
            self.assertEqual([by_tables(level, presses, tick) for tick in range(len(presses))], lit)
            self.assertEqual(by_walks(level, presses), lit)
            runs = far_runs(presses)
            self.assertEqual(spread_out(level, runs), presses)
            self.assertEqual([far_light(level, runs, tick) for tick in range(len(presses))], lit)
            for cut in range(len(presses) + 1):
                whole = joined(level, table_of(level, presses[:cut]), table_of(level, presses[cut:]))
                self.assertEqual(whole, table_of(level, presses))

    def test_one_light_by_long_levels(self):
        for level, presses in ROWS:
            lit = light(level, presses)
            self.assertEqual([long_light(level, presses), light(near_level(level), presses)], [lit, lit])
            self.assertEqual(long_light(mirrored(level), presses[::-1]), lit[::-1])
            far = slowed(level, 3)
            wide = [lights for lights in presses for _ in range(3)]
            self.assertEqual(long_light(far, wide), [lights for lights in lit for _ in range(3)])
            near = near_level(far)
            self.assertEqual([[room for room in lights if room < level[0]] for lights in light(near, wide)], long_light(far, wide))
            if len(right_rooms(near)) + len(left_rooms(near)) <= 8:
                told = [long_far_light(far, far_runs(wide), tick) for tick in range(0, len(wide), 3)]
                self.assertEqual(told, lit)

    def test_one_light_by_dark_levels(self):
        for level, presses in ROWS:
            lit = light(level, presses)
            dark = with_darks(level)
            self.assertEqual([layered_history(dark, presses), layered_by(dark, [4] * level[0], presses)], [lit, lit])
            self.assertEqual([all_founded(dark, presses), how_many_founded(dark, presses)], [[lit], 1])
            self.assertEqual([agreeing(dark, presses), founded_light(dark, presses, [[] for _ in presses])], [(lit, lit), lit])
            self.assertTrue(is_founded(dark, presses, lit) and is_layered_history(dark, presses, lit))
            self.assertIs(is_paradox(dark, presses), False)
            self.assertTrue(not presses or least_paradox(dark, presses) is None)
            self.assertEqual([agreeing_with(dark, presses, []), looks_needed(dark, presses, [])], [[lit], 0])
            self.assertEqual([sure_lights(dark, presses, []), open_lights(dark, presses, [])], [lit, lit])

    def test_one_light_by_a_live_play_and_its_picture(self):
        for level, presses in ROWS:
            lit = light(level, presses)
            play = played(level, presses)
            self.assertEqual([play.presses(), play.shown(), history_in(level, picture(level, play.shown()))], [presses, lit, lit])
            self.assertEqual([play.shown_at(tick) for tick in range(len(presses))], lit)
            self.assertEqual([of_recording(play.told()), good_part(play.told() + "x")[:2]], [(level, presses)] * 2)
            other = Play(level_of_text(text_of_level(level)))
            other.do(("read", play.told()))
            self.assertEqual([other.shown(), presses_of_text(level, text_of_presses(level, other.presses()))], [lit, presses])
            for tick in range(len(presses)):
                wanted = gained(level, presses, [[0] if at == tick else [] for at in range(len(presses))])
                if 0 not in presses[tick]:
                    self.assertEqual(play.otherwise(("press", tick, [0])), wanted)

    def test_one_light_for_ever(self):
        for level, presses in ROWS:
            endless = (presses, [[]])
            self.assertEqual(for_ever(level, endless), layered_endless(with_darks(level), endless))
            rounds = stays_from(level, endless, len(presses))
            ahead, turn = for_ever(level, endless)
            told = (ahead + turn * len(presses))[:len(presses)]
            self.assertEqual(light(level, presses + [[]] * rounds)[:len(presses)], told)
            if not lefts_of(level):
                self.assertEqual(told, light(level, presses))


class Rooms(unittest.TestCase):

    def test_trails_and_closed_histories_tell_the_same_of_each_room(self):
        for level, presses in ROWS:
            lit, runs = light(level, presses), far_runs(presses)
            self.assertTrue(keeps(level, presses, lit) and plainly_keeps(level, presses, lit))
            for tick in range(len(presses)):
                for room in range(level[0]):
                    is_lit = room in lit[tick]
                    trail = first_trail(level, presses, tick, room)
                    self.assertEqual([trail is not None, trail_depth(level, presses, tick, room) is not None], [is_lit] * 2)
                    self.assertTrue(trail is None or is_trail(level, presses, tick, room, trail))
                    self.assertEqual(is_dark_paper(level, presses, tick, room, lit), not is_lit)
                    without = how_many_without(level, presses, tick, room)
                    self.assertTrue(0 <= without < how_many_keep(level, presses) + 1 and (without == 0) == is_lit)
                    paper = far_dark_paper(level, runs, tick, room)
                    self.assertEqual(paper is None, is_lit)
                    self.assertTrue(paper is None or is_far_dark(level, runs, tick, room, paper))
                    given = givers(level, presses, tick, room) != [] or room in presses[tick]
                    self.assertEqual(given, is_lit)

    def test_reasons_tell_the_same_of_each_room(self):
        for level, presses in ROWS[::3]:
            lit = light(level, presses)
            for tick in range(len(presses)):
                for room in range(level[0]):
                    told = reasons(level, presses, tick, room)
                    self.assertEqual(told != [], room in lit[tick])
                    self.assertEqual(how_many_light(level, presses, tick, room) > 0, room in lit[tick])
                    for lot in told:
                        self.assertTrue(is_reason(level, presses, tick, room, lot))
                        self.assertIn(room, light(level, with_only(level, presses, lot))[tick])
                        self.assertTrue(set(lot) <= set(presses_in(level, presses)))

    def test_walks_tell_the_same_of_each_room(self):
        for level, presses in ROWS:
            lit = light(level, presses)
            for room in range(level[0]):
                # Somebody who stands at the place of each tick, one behind the other, goes on where the room is lit.
                steps = [(tick, tick + 1, [room]) for tick in range(len(presses) - 1)]
                house, walk = (level, presses, steps), list(range(len(presses)))
                if presses:
                    self.assertTrue(is_walk(house, walk))
                    self.assertEqual(hands_light(house, [walk]), lit)
                    told = [room in lights for lights in lit[:-1]]
                    self.assertEqual(open_steps(house, [walk], 0), told)
                    self.assertEqual(first_shut(house, [walk]), (0, told.index(False)) if False in told else None)

    def test_what_is_to_come_and_how_often_tell_the_same_of_each_room(self):
        for level, presses in ROWS:
            lit, runs = light(level, presses), far_runs(presses)
            settled = settled_past(level, presses, [[]])
            for room in range(level[0]):
                ticks = [tick for tick, lights in enumerate(lit) if room in lights]
                self.assertEqual(times_lit(level, runs, room), len(ticks))
                ends = (ticks[0], ticks[-1]) if ticks else None
                self.assertEqual(reach_of(level, runs, room), ends)
                self.assertEqual((first_lit(level, runs, room), last_lit(level, runs, room)), ends or (None, None))
                for tick in range(len(presses)):
                    told = rescue(level, presses, [[]], tick, room)
                    self.assertEqual(told == [], room in lit[tick])
                    self.assertTrue(tick >= settled or told in ([], None))
                    if told:
                        self.assertIn(room, light(level, presses + told)[tick])


if __name__ == "__main__":
    unittest.main()
