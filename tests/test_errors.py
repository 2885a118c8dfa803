"""The refusals: the interface's rooklands/errors.py."""

import unittest

from rooklands import errors

NAMES = [
    "NoText", "NoOrder", "NoLines", "TooFew", "NoSize", "TooMany", "NoNumber", "NoStand", "NoCell", "NotSquare",
    "NoHits", "NoCounts", "NoStairs", "NotAlike", "NoParting", "NoPlace", "Double", "NoDeed", "NoRow",
]


class ErrorsTest(unittest.TestCase):
    def test_rook_error_is_a_value_error(self):
        self.assertEqual(errors.RookError.__bases__, (ValueError,))

    def test_each_class_stands_straight_under_rook_error(self):
        for name in NAMES:
            with self.subTest(name):
                self.assertEqual(getattr(errors, name).__bases__, (errors.RookError,))
                self.assertEqual(getattr(errors, name).__name__, name)

    def test_there_are_just_these(self):
        classes = [value for value in vars(errors).values() if isinstance(value, type)]
        self.assertEqual(sorted(each.__name__ for each in classes), sorted(NAMES + ["RookError"]))

    def test_no_class_has_two_names(self):
        self.assertEqual(len({getattr(errors, name) for name in NAMES}), len(NAMES))

    def test_none_is_caught_as_another(self):
        for name in NAMES:
            for other in NAMES:
                is_under = issubclass(getattr(errors, name), getattr(errors, other))
                self.assertEqual(is_under, name == other, (name, other))


if __name__ == "__main__":
    unittest.main()
