"""[5]: the error classes."""

import unittest

from timedoors import errors

WITH_VALUE = [
    "InvalidNumber", "InvalidRoom", "InvalidLights", "InvalidLevel", "InvalidPresses", "InvalidHistory", "InvalidRuns",
    "InvalidTable", "InvalidLetters", "InvalidHouse", "InvalidWalk", "InvalidWalks", "InvalidLayers", "InvalidText",
    "InvalidDeed", "Unlike", "TooMany",
]
PLAIN = ["NothingToUndo", "NothingToRedo"]


class Errors(unittest.TestCase):

    def test_5_the_base_is_a_value_error(self):
        self.assertEqual(errors.DoorError.__bases__, (ValueError,))
        self.assertEqual(str(errors.DoorError("shut")), "shut")
        self.assertEqual(str(errors.DoorError()), "")
        self.assertFalse(hasattr(errors.DoorError("shut"), "value"))

    def test_5_each_stands_directly_under_the_base(self):
        for name in WITH_VALUE + PLAIN:
            with self.subTest(name=name):
                told = getattr(errors, name)
                self.assertEqual(told.__bases__, (errors.DoorError,))
                self.assertEqual(told.__name__, name)
                self.assertEqual(told.__module__, "timedoors.errors")

    def test_5_each_keeps_its_value(self):
        for name in WITH_VALUE:
            with self.subTest(name=name):
                told = getattr(errors, name)
                value = [1, [2]]
                self.assertIs(told(value).value, value)
                self.assertIs(told(value=value).value, value)
                self.assertIsNone(told().value)
                self.assertIs(told(False).value, False)
                with self.assertRaises(ValueError) as caught:
                    raise told(value)
                self.assertIs(caught.exception.value, value)
                self.assertIsInstance(str(caught.exception), str)

    def test_5_nothing_to_undo_and_to_redo_have_no_field(self):
        for name in PLAIN:
            with self.subTest(name=name):
                told = getattr(errors, name)()
                self.assertFalse(hasattr(told, "value"))
                self.assertIsInstance(told, errors.DoorError)

    def test_5_there_are_no_others(self):
        names = [name for name, value in vars(errors).items() if isinstance(value, type)]
        self.assertEqual(sorted(names), sorted(WITH_VALUE + PLAIN + ["DoorError"]))


if __name__ == "__main__":
    unittest.main()
