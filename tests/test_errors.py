"""The interface's section hoistworks/errors.py."""

import unittest

from hoistworks import errors

NAMES = ("NoHoist", "NoRope", "NoBody", "Sinks", "TooMany", "BadText")


class ErrorsTest(unittest.TestCase):
    def test_hoist_error_stands_straight_under_value_error(self):
        self.assertEqual(errors.HoistError.__bases__, (ValueError,))

    def test_each_stands_straight_under_hoist_error(self):
        for name in NAMES:
            with self.subTest(name=name):
                self.assertEqual(getattr(errors, name).__bases__, (errors.HoistError,))

    def test_each_is_taken_as_itself_and_as_those_above(self):
        for name in NAMES:
            for above in (getattr(errors, name), errors.HoistError, ValueError):
                with self.subTest(name=name, above=above.__name__), self.assertRaises(above):
                    raise getattr(errors, name)("some words")

    def test_none_is_one_of_the_other_five(self):
        for name in NAMES:
            for other in NAMES:
                with self.subTest(name=name, other=other):
                    error = getattr(errors, name)("some words")
                    self.assertEqual(isinstance(error, getattr(errors, other)), name == other)


if __name__ == "__main__":
    unittest.main()
