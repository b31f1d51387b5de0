"""[78] to [80]: live plays, by plays drawn deed by deed beside presses that are kept by hand."""

import copy
import random
import unittest

from tests.helpers import BACK, HALL, odd_values, plain_light, same, small_levels, some_levels, subsets
from timedoors import errors
from timedoors.errors import InvalidDeed, InvalidLevel, InvalidNumber, NothingToRedo, NothingToUndo
from timedoors.lines import recording
from timedoors.play import Play, is_deed

BOTH_WAYS = (3, [([0, 1], 2, 0), ([2], 0, 1), ([0], 1, -1)])


def is_plain_deed(level, presses, deed):
    """Whether a deed of the right form can be done to presses, by the words of [78]."""
    name = deed[0]
    if name == "tick":
        return len(presses) < 30
    if name in ("press", "lift"):
        _, tick, lights = deed
        pressed = presses[tick] if tick < len(presses) else None
        if pressed is None or not lights:
            return False
        return not set(lights) & set(pressed) if name == "press" else set(lights) <= set(pressed)
    if name == "cut":
        return deed[1] < len(presses)
    lines = deed[1].split("\n")
    return lines[0] + "\n" == recording(level, []) and len(presses) + len(lines) - 2 <= 30


def plain_behind(level, presses, deed):
    presses = copy.deepcopy(presses)
    name = deed[0]
    if name == "tick":
        return presses + [list(deed[1])]
    if name == "press":
        presses[deed[1]] = sorted(presses[deed[1]] + deed[2])
    elif name == "lift":
        presses[deed[1]] = [room for room in presses[deed[1]] if room not in deed[2]]
    elif name == "cut":
        return presses[:deed[1]]
    else:
        return presses + [[int(room) for room in line.split(".") if room != "-"] for line in deed[1].split("\n")[1:-1]]
    return presses


def some_deed(draw, level, presses, many=30):
    """A deed of the right form, which can be done or not."""
    lights = sorted(draw.sample(range(level[0]), draw.randint(0, min(2, level[0]))))
    tick = draw.randrange(len(presses) + 1)
    name = draw.choice(("tick", "tick", "press", "press", "lift", "cut", "read"))
    if name == "tick":
        return name, lights
    if name == "press":
        return name, tick, lights
    if name == "lift":
        here = presses[tick] if tick < len(presses) and draw.random() < 0.8 else lights
        return name, tick, sorted(draw.sample(here, draw.randint(0, len(here))))
    if name == "cut":
        return name, draw.randint(max(0, tick - 1), len(presses) + 1)
    other = level if draw.random() < 0.8 else (level[0] + 1, level[1])
    return name, recording(other, [[], lights][:draw.randint(0, 2)] * draw.choice((1, 1, many // 2)))


def drawn_play(draw, level, deeds):
    """A play, its deeds, and the presses behind each number of them."""
    play, log, presses = Play(level), [], [[]]
    for _ in range(deeds):
        deed = some_deed(draw, level, presses[-1])
        if is_plain_deed(level, presses[-1], deed):
            play.do(deed)
            log.append(deed)
            presses.append(plain_behind(level, presses[-1], deed))
    return play, log, presses


def lit_of(history):
    return {(tick, room) for tick, lights in enumerate(history) for room in lights}


LEVELS = small_levels()[::40] + some_levels(78, 60, 4, 6) + [BACK, HALL, BOTH_WAYS]


class Deeds(unittest.TestCase):

    def test_78_a_new_play(self):
        play = Play(HALL)
        self.assertTrue(same([play.level(), play.presses(), play.told(), play.log(), play.shown(), play.seen_now()],
                             [HALL, [], recording(HALL, []), [], [], []]))
        for value in odd_values() + [(3, [([], [], 0, 0)]), (1, [([], 0, 2)])]:
            with self.assertRaises(InvalidLevel) as caught:
                Play(value)
            self.assertIs(caught.exception.value, value)

    def test_78_what_can_be_done_and_what_comes_of_it(self):
        draw = random.Random(78)
        told = {}
        for level in LEVELS * 2:
            play, presses = Play(level), []
            for _ in range(25):
                deed = some_deed(draw, level, presses)
                wanted = is_plain_deed(level, presses, deed)
                self.assertIs(is_deed(play, deed), wanted, (level, presses, deed))
                told[(deed[0], wanted)] = told.get((deed[0], wanted), 0) + 1
                if wanted:
                    self.assertIsNone(play.do(deed))
                    presses = plain_behind(level, presses, deed)
                else:
                    with self.assertRaises(InvalidDeed) as caught:
                        play.do(deed)
                    self.assertIs(caught.exception.value, deed)
                self.assertTrue(same(play.presses(), presses))
                self.assertEqual([play.level(), play.told()], [level, recording(level, presses)])
        self.assertTrue(all(told[(name, can)] > 30 for name in ("press", "lift", "cut", "read") for can in (True, False)), told)

    def test_78_at_most_30_ticks(self):
        play = Play(HALL)
        for _ in range(30):
            play.do(("tick", [0]))
        self.assertEqual([is_deed(play, ("tick", [])), is_deed(play, ("read", recording(HALL, [[]]))),
                          is_deed(play, ("read", recording(HALL, [])))], [False, False, True])
        self.assertEqual([is_deed(play, ("press", 29, [1])), is_deed(play, ("lift", 29, [0])), is_deed(play, ("cut", 29)),
                          is_deed(play, ("press", 30, [1])), is_deed(play, ("cut", 30))], [True, True, True, False, False])
        play.do(("cut", 29))
        self.assertEqual([is_deed(play, ("tick", [])), is_deed(play, ("read", recording(HALL, [[]]))),
                          is_deed(play, ("read", recording(HALL, [[], []])))], [True, True, False])
        whole = Play(HALL)
        whole.do(("read", recording(HALL, [[1]] * 30)))
        self.assertEqual(whole.presses(), [[1]] * 30)
        self.assertIs(is_deed(Play(HALL), ("read", recording(HALL, [[1]] * 31))), False)

    def test_78_lifts_and_presses_of_a_part(self):
        play = Play(HALL)
        play.do(("tick", [0, 1]))
        for lights, can_press, can_lift in (
                ([], False, False), ([0], False, True), ([2], True, False), ([0, 1], False, True), ([1, 2], False, False),
                ([0, 2], False, False), ([0, 1, 2], False, False)):
            self.assertEqual([is_deed(play, ("press", 0, lights)), is_deed(play, ("lift", 0, lights))],
                             [can_press, can_lift])
        self.assertIs(is_deed(play, ("tick", [])), True)

    def test_78_recordings_as_deeds(self):
        play = Play(HALL)
        play.do(("tick", [1]))
        text = recording(HALL, [[0], [2]])
        for torn in (text[:-1], text[1:], text + "x", text + "\n", "", "1:\n", recording(BACK, [[0]]), text.replace("2\n", "3\n")):
            self.assertIs(is_deed(play, ("read", torn)), False)
        # A level that is equal but for the order of its doors is another one.
        self.assertIs(is_deed(play, ("read", recording((3, HALL[1][::-1]), []))), False)
        play.do(("read", recording(HALL, [])))
        self.assertEqual([play.presses(), len(play.log())], [[[1]], 2])
        play.do(("read", text))
        self.assertEqual([play.presses(), play.log()[2]], [[[1], [0], [2]], ("read", text)])

    def test_78_other_values_are_no_deeds(self):
        play = Play(HALL)
        play.do(("tick", [0]))
        play.do(("tick", []))
        wrong = odd_values() + [
            ("tick",), ("tick", [], []), ["tick", []], ("tick", ()), ("tick", [3]), ("tick", [1, 0]), ("tick", [True]),
            ("tick", None), ("Tick", []), ("press", 0), ("press", 0, [1], 0), ("press", True, [1]), ("press", -1, [1]),
            ("press", 2, [1]), ("press", None, [1]), ("press", "0", [1]), ("press", 0, (1,)), ("press", 0, [3]),
            ("press", 0, [2, 1]), ("press", 0, [1, True]), ("lift", 0, (0,)), ("lift", False, [0]), ("lift", 0, [False]),
            ("lift", 0, None), ("lift", 1, [0]), ("cut",), ("cut", 0, 0), ("cut", True), ("cut", False), ("cut", -1),
            ("cut", None), ("cut", 2), ("cut", 10 ** 29), ("cut", []), ("read",), ("read", None), ("read", ["3:\n"]),
            ("read", recording(HALL, []), 0), ("read", HALL), ("undo",), ("redo",), ("", []), (None, []), ([], []),
            ({}, []), (play, play), ("tick", play), play, [play], ("press", 0, [1.5 > 1])]
        before = play.copy()
        for value in wrong:
            self.assertIs(is_deed(play, value), False)
            for method in (play.do, play.otherwise):
                with self.assertRaises(InvalidDeed) as caught:
                    method(value)
                self.assertIs(caught.exception.value, value)
        self.assertTrue(play == before)

    def test_78_what_is_no_play_is_refused(self):
        for value in odd_values() + [HALL, ("tick", []), errors.InvalidDeed(), [Play(HALL)]]:
            if not isinstance(value, Play):
                with self.assertRaises(InvalidDeed) as caught:
                    is_deed(value, ("tick", []))
                self.assertIs(caught.exception.value, value)


class BackAndForth(unittest.TestCase):

    def test_79_all_is_as_it_was(self):
        draw = random.Random(79)
        for level in LEVELS:
            play, log, presses = drawn_play(draw, level, 14)
            at = len(log)
            for _ in range(40):
                if draw.random() < 0.55:
                    if at == 0:
                        with self.assertRaises(NothingToUndo):
                            play.undo()
                    else:
                        self.assertIsNone(play.undo())
                        at -= 1
                elif at == len(log):
                    with self.assertRaises(NothingToRedo):
                        play.redo()
                else:
                    self.assertIsNone(play.redo())
                    at += 1
                self.assertTrue(same(play.presses(), presses[at]))
                self.assertTrue(same(play.log(), log[:at]))
                self.assertEqual([play.told(), play.shown()], [recording(level, presses[at]), plain_light(level, presses[at])])

    def test_79_a_new_deed_forgets_what_was_undone(self):
        play = Play(HALL)
        for room in range(3):
            play.do(("tick", [room]))
        play.undo()
        play.undo()
        with self.assertRaises(InvalidDeed):
            play.do(("read", "3:\n0"))
        with self.assertRaises(InvalidDeed):
            play.otherwise(("cut", 1))
        play.redo()
        self.assertEqual(play.presses(), [[0], [1]])
        play.otherwise(("tick", []))
        is_deed(play, ("tick", []))
        play.redo()
        play.undo()
        play.do(("press", 1, [2]))
        with self.assertRaises(NothingToRedo):
            play.redo()
        self.assertEqual([play.presses(), play.log()], [[[0], [1, 2]], [("tick", [0]), ("tick", [1]), ("press", 1, [2])]])
        play.undo()
        play.redo()
        self.assertEqual(play.presses(), [[0], [1, 2]])

    def test_79_nothing_is_there(self):
        play = Play(HALL)
        for method, error in ((play.undo, NothingToUndo), (play.redo, NothingToRedo)):
            with self.assertRaises(error) as caught:
                method()
            self.assertFalse(hasattr(caught.exception, "value"))
            self.assertIs(type(caught.exception), error)
        self.assertTrue(play == Play(HALL))

    def test_79_copies_go_their_own_way(self):
        draw = random.Random(791)
        for level in LEVELS[::3]:
            play, log, presses = drawn_play(draw, level, 10)
            for _ in range(min(2, len(log))):
                play.undo()
            at = len(play.log())
            other = play.copy()
            self.assertTrue(other == play and not other != play)
            self.assertIsNot(other, play)
            for _ in range(len(log) - at):
                other.redo()
            self.assertEqual([other.log(), other.presses()], [log, presses[len(log)]])
            self.assertEqual([play.log(), play.presses()], [log[:at], presses[at]])
            self.assertEqual(other == play, at == len(log))
            while other.log():
                other.undo()
            other.do(("tick", [0]))
            self.assertEqual([play.log(), play.presses()], [log[:at], presses[at]])
            for number in range(at, len(log)):
                play.redo()
                self.assertEqual(play.presses(), presses[number + 1])

    def test_79_equal_exactly_if_levels_presses_and_logs_are(self):
        one, other = Play(HALL), Play(HALL)
        one.do(("tick", [0]))
        self.assertFalse(one == other)
        other.do(("tick", []))
        other.do(("press", 0, [0]))
        self.assertEqual(one.presses(), other.presses())
        self.assertFalse(one == other)
        other.undo()
        other.undo()
        other.do(("tick", [0]))
        self.assertTrue(one == other and not one != other)
        # What was undone does not count.
        one.do(("tick", []))
        one.undo()
        self.assertTrue(one == other)
        self.assertFalse(Play(BACK) == Play(HALL))
        self.assertTrue(Play((1, [])) == Play((1, [])))
        for value in odd_values() + [HALL, [], one.log()]:
            self.assertFalse(one == value or value == one)
            self.assertTrue(one != value)

    def test_79_the_log(self):
        draw = random.Random(792)
        for level in LEVELS[::2]:
            play, log, _ = drawn_play(draw, level, 12)
            self.assertTrue(same(play.log(), log))
            again = Play(level)
            for deed in play.log():
                again.do(deed)
            self.assertTrue(again == play)


class Shown(unittest.TestCase):

    def test_80_behind_each_deed_the_light_of_the_presses_kept(self):
        draw = random.Random(80)
        for level in LEVELS:
            play, log, presses = drawn_play(draw, level, 12)
            for at in range(len(log), -1, -1):
                lit = plain_light(level, presses[at])
                self.assertTrue(same(play.shown(), lit))
                for tick, lights in enumerate(lit):
                    self.assertTrue(same(play.shown_at(tick), lights))
                for tick in (len(lit), -1, True, None, "0", [0], 10 ** 29):
                    with self.assertRaises(InvalidNumber) as caught:
                        play.shown_at(tick)
                    self.assertIs(caught.exception.value, tick)
                if at > 0:
                    play.undo()

    def test_80_changes_are_exactly_what_is_told_ahead(self):
        draw = random.Random(801)
        earlier = 0
        for level in LEVELS * 2:
            play, presses = Play(level), []
            for _ in range(18):
                deed = some_deed(draw, level, presses)
                if is_plain_deed(level, presses, deed):
                    told, before = play.otherwise(deed), lit_of(play.shown())
                    self.assertEqual(play.presses(), presses)
                    play.do(deed)
                    behind = lit_of(play.shown())
                    self.assertTrue(same(told, sorted(before ^ behind)))
                    if deed[0] in ("tick", "press", "read"):
                        self.assertLessEqual(before, behind)
                    else:
                        self.assertLessEqual(behind, before)
                    earlier += deed[0] == "tick" and any(tick < len(presses) for tick, _ in told)
                    presses = plain_behind(level, presses, deed)
        self.assertGreater(earlier, 40)

    def test_80_a_lift_of_what_was_just_pressed(self):
        draw = random.Random(802)
        for level in LEVELS * 2:
            play, _, presses = drawn_play(draw, level, 10)
            for tick, lights in enumerate(presses[-1]):
                for more in subsets([room for room in range(level[0]) if room not in lights])[1:]:
                    before = play.shown()
                    changes = play.otherwise(("press", tick, more))
                    play.do(("press", tick, more))
                    self.assertEqual(play.otherwise(("lift", tick, more)), changes)
                    play.do(("lift", tick, more))
                    self.assertEqual(play.shown(), before)

    def test_80_seen_now(self):
        draw = random.Random(803)
        unlike = 0
        for level in LEVELS * 3:
            play, presses, seen = Play(level), [], []
            for _ in range(20):
                deed = some_deed(draw, level, presses)
                if not is_plain_deed(level, presses, deed):
                    continue
                play.do(deed)
                presses = plain_behind(level, presses, deed)
                if deed[0] == "tick":
                    seen.append((len(presses) - 1, plain_light(level, presses)[-1]))
                if deed[0] == "cut":
                    seen = [(tick, lights) for tick, lights in seen if tick < deed[1]]
                told = play.seen_now()
                self.assertTrue(same(told, [lights for _, lights in seen]))
                unlike += told != [play.shown_at(tick) for tick, _ in seen]
        self.assertGreater(unlike, 50)

    def test_80_seen_now_without_ticks_that_were_read_or_cut_away(self):
        play = Play(BOTH_WAYS)
        play.do(("read", recording(BOTH_WAYS, [[0]])))
        play.do(("tick", [0]))
        play.do(("tick", [2]))
        self.assertEqual([play.seen_now(), play.shown()], [[[0], [2]], [[0, 1, 2], [0], [2]]])
        play.do(("cut", 2))
        self.assertEqual(play.seen_now(), [[0]])
        play.do(("cut", 1))
        self.assertEqual(play.seen_now(), [])
        play.undo()
        play.undo()
        self.assertEqual(play.seen_now(), [[0], [2]])
        play.do(("cut", 0))
        play.do(("tick", [1]))
        self.assertEqual([play.seen_now(), play.shown()], [[[1]], [[1]]])


class Lists(unittest.TestCase):

    def spoil(self, value):
        if isinstance(value, (list, tuple)):
            for part in value:
                self.spoil(part)
        if isinstance(value, list):
            value.append("spoilt")

    def test_2_lists_that_were_handed_in_change_no_play(self):
        level, lights, more = copy.deepcopy(HALL), [0], [1]
        play = Play(level)
        play.do(("tick", lights))
        play.do(("press", 0, more))
        before = play.copy()
        told = [play.level(), play.presses(), play.told(), play.log(), play.shown()]
        for value in (level, lights, more):
            self.spoil(value)
        self.assertTrue(play == before)
        self.assertEqual([play.level(), play.presses(), play.told(), play.log(), play.shown()], told)

    def test_2_lists_that_were_told_change_no_play(self):
        play = Play(BACK)
        for deed in (("tick", [0]), ("tick", [1]), ("press", 0, [1]), ("lift", 0, [0]), ("read", recording(BACK, [[2]]))):
            play.do(deed)
        play.undo()
        def each():
            return [play.level(), play.presses(), play.log(), play.shown(), play.shown_at(0), play.seen_now(),
                    play.otherwise(("tick", [0]))]
        before = copy.deepcopy(each())
        for value in each():
            self.spoil(value)
        self.assertTrue(same(each(), before))
        play.redo()
        self.assertEqual(play.presses(), [[1], [1], [2]])

    def test_2_no_list_is_told_twice(self):
        play = Play(BACK)
        play.do(("tick", [0]))
        play.do(("tick", [0]))
        other = play.copy()
        ids = set()
        told = [one.log() for one in (play, other)] + [one.presses() for one in (play, other)]
        told += [one.shown() for one in (play, other)] + [one.level() for one in (play, other)]
        found = []
        def walk(value):
            if isinstance(value, list):
                found.append(value)
            if isinstance(value, (list, tuple)):
                for part in value:
                    walk(part)
        walk(told)
        ids = {id(value) for value in found}
        self.assertEqual(len(ids), len(found))

    def test_1_by_the_names_of_arguments(self):
        play = Play(level=HALL)
        self.assertIsNone(play.do(deed=("tick", [0])))
        self.assertEqual([play.shown_at(tick=0), play.otherwise(deed=("cut", 0)), is_deed(value=("cut", 0), play=play)],
                         [[0], [(0, 0)], True])


if __name__ == "__main__":
    unittest.main()
