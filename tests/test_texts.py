"""[7]: texts of levels and presses, pictures of histories."""

import unittest

from tests import wrong
from tests.helpers import HALL, all_presses, same, small_levels, some_levels
from timedoors import errors
from timedoors.levels import is_level
from timedoors.texts import history_in, level_of_text, picture, presses_of_text, text_of_level, text_of_presses


class Texts(unittest.TestCase):

    def test_7_texts_of_levels(self):
        rows = [
            (HALL, "3: 0.1=2 2>0 -<1"), ((1, []), "1:"), ((2, [([0], 1, 0)] * 2), "2: 0=1 0=1"),
            ((12, [([0, 2, 11], 10, -1)]), "12: 0.2.11<10"), ((10 ** 29, []), "1" + "0" * 29 + ":"),
            ((1, [([], 0, 1), ([], 0, 0), ([], 0, -1)]), "1: ->0 -=0 -<0"),
        ]
        for level, text in rows:
            self.assertEqual(text_of_level(level), text)
            self.assertTrue(same(level_of_text(text), level))

    def test_7_each_level_has_one_text(self):
        texts = {}
        for level in small_levels() + some_levels(7, 200, 6, 12):
            text = text_of_level(level)
            self.assertTrue(same(level_of_text(text), level))
            self.assertEqual(texts.setdefault(text, level), level)

    def test_7_short_texts_are_of_levels_exactly_if_they_are_told_again(self):
        signs = "01:-.<= \n"
        texts = [""]
        for _ in range(5):
            texts = [text + sign for text in texts for sign in signs if len(text) < 3 or text.startswith("1: ")]
            for text in texts:
                try:
                    level = level_of_text(text)
                except errors.InvalidText as refused:
                    self.assertIs(refused.value, text)
                    level = None
                if level is not None:
                    self.assertTrue(is_level(level))
                    self.assertEqual(text_of_level(level), text)
        self.assertTrue(same(level_of_text("1: -<0"), (1, [([], 0, -1)])))

    def test_7_texts_of_presses(self):
        rows = [
            ([[0, 2], [], [1]], "0.2 - 1"), ([], ""), ([[]], "-"), ([[], []], "- -"), ([[0, 1, 2]] * 2, "0.1.2 0.1.2"),
        ]
        for presses, text in rows:
            self.assertEqual(text_of_presses(HALL, presses), text)
            self.assertTrue(same(presses_of_text(HALL, text), presses))
        for presses in all_presses(2, 3):
            self.assertTrue(same(presses_of_text((2, []), text_of_presses((2, []), presses)), presses))
        self.assertEqual(presses_of_text((12, []), "2.10.11 9"), [[2, 10, 11], [9]])

    def test_7_long_texts(self):
        many = " ".join(["0.1.2"] * 60)
        self.assertEqual(presses_of_text(HALL, many), [[0, 1, 2]] * 60)
        self.assertEqual(level_of_text("9" * 30 + ":"), (10 ** 30 - 1, []))
        for text in ["1" * 400, "1: 0>" + "1" * 395, "1" * 9000 + ";", "1: 0>" + "7" * 9000, "0" * 400 + ":"]:
            with self.assertRaises(errors.InvalidText):
                level_of_text(text)
        with self.assertRaises(errors.InvalidText):
            presses_of_text(HALL, "9" * 9000)

    def test_7_rooms_of_presses_are_the_levels(self):
        self.assertEqual(presses_of_text((4, []), "3"), [[3]])
        with self.assertRaises(errors.InvalidText):
            presses_of_text((3, []), "3")

    def test_7_other_texts_are_refused(self):
        for text in wrong.TEXTS:
            with self.subTest(text=text), self.assertRaises(errors.InvalidText) as caught:
                level_of_text(text)
            self.assertIs(caught.exception.value, text)


class Pictures(unittest.TestCase):

    def test_7_pictures(self):
        rows = [
            ([[0], [], [0, 2]], ["#.#", "...", "..#"]), ([], ["", "", ""]), ([[]], [".", ".", "."]),
            ([[0, 1, 2]], ["#", "#", "#"]), ([[1], [1], [2], []], ["....", "##..", "..#."]),
        ]
        for history, lines in rows:
            self.assertEqual(picture(HALL, history), lines)
            self.assertTrue(same(history_in(HALL, lines), history))
        self.assertEqual(picture((1, []), [[0]] * 30), ["#" * 30])
        self.assertEqual(history_in((1, []), ["#.#"]), [[0], [], [0]])
        self.assertEqual(history_in((1, []), [""]), [])

    def test_7_each_history_has_one_picture(self):
        for history in all_presses(2, 3):
            self.assertTrue(same(history_in((2, []), picture((2, []), history)), history))

    def test_7_other_pictures_are_refused(self):
        for lines in wrong.PICTURES:
            with self.subTest(lines=lines), self.assertRaises(errors.InvalidText) as caught:
                history_in(HALL, lines)
            self.assertIs(caught.exception.value, lines)


if __name__ == "__main__":
    unittest.main()
