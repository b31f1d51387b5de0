"""[77]: recordings, and what can be read of them wherever they are cut or written over."""

import random
import unittest

from tests.helpers import HALL, odd_values, presses_up_to, same, small_levels, some_levels, some_presses
from tests.wrong import PRESS_TEXTS, TEXTS
from timedoors.errors import InvalidLevel, InvalidPresses, InvalidText
from timedoors.lines import good_part, of_recording, recording
from timedoors.texts import text_of_level, text_of_presses

NOTHING = (None, [], 0)


def is_recording(text):
    try:
        of_recording(text)
    except InvalidText:
        return False
    return True


def plain_good_part(text):
    """The greatest number of characters that are a recording, by trying all."""
    for many in range(len(text), -1, -1):
        if is_recording(text[:many]):
            return (*of_recording(text[:many]), many)
    return NOTHING


def drawn_rows(seed, many):
    draw = random.Random(seed)
    return [(level, some_presses(draw, level[0], draw.randint(0, 6))) for level in some_levels(seed, many, 5, 6)]


class Recordings(unittest.TestCase):

    def test_77_line_by_line(self):
        for level, presses in drawn_rows(77, 150):
            lines = [text_of_level(level)] + [text_of_presses(level, [lights]) for lights in presses]
            text = recording(level, presses)
            self.assertEqual(text, "".join(line + "\n" for line in lines))
            self.assertTrue(same(of_recording(text), (level, presses)))
            self.assertTrue(same(good_part(text), (level, presses, len(text))))

    def test_77_small_ones(self):
        for level in small_levels()[::9]:
            for presses in presses_up_to(level[0], 1):
                self.assertTrue(same(of_recording(recording(level, presses)), (level, presses)))

    def test_77_without_a_tick(self):
        self.assertEqual([recording((1, []), []), of_recording("1:\n")], ["1:\n", ((1, []), [])])
        self.assertEqual(recording(HALL, []), "3: 0.1=2 2>0 -<1\n")

    def test_77_a_cut_loses_the_line_in_which_it_is_and_those_behind_it_alone(self):
        for level, presses in drawn_rows(771, 40):
            text = recording(level, presses)
            for many in range(len(text) + 1):
                lines = text[:many].count("\n")
                told = good_part(text[:many])
                if lines == 0:
                    self.assertTrue(same(told, NOTHING))
                else:
                    kept = sum(len(line) + 1 for line in text.split("\n")[:lines])
                    self.assertTrue(same(told, (level, presses[:lines - 1], kept)))
                self.assertEqual(is_recording(text[:many]), lines > 0 and text[many - 1] == "\n")

    def test_77_what_is_written_over_behind_a_line_does_no_harm_to_it(self):
        draw = random.Random(772)
        for level, presses in drawn_rows(773, 60):
            text = recording(level, presses)
            for _ in range(10):
                at = draw.randrange(len(text))
                torn = text[:at] + draw.choice("0123.- \n<=>:x~\t") + text[at + draw.randint(0, 2):]
                told = good_part(torn)
                self.assertTrue(same(told, plain_good_part(torn)), torn)
                lines = text[:at].count("\n")
                if lines > 0:
                    self.assertEqual(told[0], level)
                    self.assertEqual(told[1][:lines - 1], presses[:lines - 1])
                    self.assertGreaterEqual(told[2], len("\n".join(text.split("\n")[:lines])) + 1)

    def test_77_texts_without_any_good_part(self):
        for text in ("", "\n", "\n1:\n", "1:", "1", ":\n", "0:\n", "01:\n", " 1:\n", "1: \n", "1:\t\n", "1:\n"[:2], "x\n1:\n",
                     "1: 0>1\n0\n", "2: 0>1 \n", "2:  0>1\n", "2: 0>1\t\n", "-\n", "0\n-\n"):
            self.assertTrue(same(good_part(text), NOTHING), text)
        for text in [text for text in TEXTS if isinstance(text, str) and "\n" not in text]:
            self.assertEqual(good_part(text + "\n"), NOTHING)

    def test_77_lines_that_are_none(self):
        for line in [line for line in PRESS_TEXTS if isinstance(line, str) and "\n" not in line] + ["", "0 0", "- -", "3"]:
            text = "3: 0>1\n0.2\n" + line + "\n1\n"
            self.assertTrue(same(good_part(text), ((3, [([0], 1, 1)]), [[0, 2]], 11)), line)
            self.assertFalse(is_recording(text))
        self.assertEqual(good_part("1:\n-\n\n-\n"), ((1, []), [[]], 5))

    def test_77_numbers_of_30_figures(self):
        many = 10 ** 30 - 1
        level = (many, [([5, many - 1], many - 2, -1)])
        text = recording(level, [[many - 1], []])
        self.assertTrue(same(of_recording(text), (level, [[many - 1], []])))
        self.assertEqual(good_part(text + f"{many}\n"), (level, [[many - 1], []], len(text)))

    def test_77_texts_that_are_refused(self):
        for value in odd_values() + [b"1:\n", ["1:\n"]]:
            if not isinstance(value, str):
                for function in (of_recording, good_part):
                    with self.assertRaises(InvalidText) as caught:
                        function(value)
                    self.assertIs(caught.exception.value, value)
        for text in ("", "1:", "1:\n0", "1:\n1\n", "1:\n\n", "1: \n", "1:\n0\nx\n", "\n1:\n", "1:\n0 0\n", "1:\n0\n\n"):
            with self.assertRaises(InvalidText) as caught:
                of_recording(text)
            self.assertIs(caught.exception.value, text)

    def test_77_wrong_values_in_order(self):
        for values, error in (((None, None), InvalidLevel), (((1, []), [[1]]), InvalidPresses)):
            with self.assertRaises(error):
                recording(*values)


if __name__ == "__main__":
    unittest.main()
