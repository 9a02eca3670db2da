"""The errors: each stands under HallError alone, HallError under ValueError."""

import unittest

from swornhall import errors

NAMES = ("BadSheet", "NoCraft", "Unmet", "NotShown", "Unfit")


class Errors(unittest.TestCase):
    def test_hall_error_stands_under_value_error(self):
        self.assertEqual(errors.HallError.__bases__, (ValueError,))

    def test_each_stands_under_hall_error_alone(self):
        for name in NAMES:
            with self.subTest(name):
                self.assertEqual(getattr(errors, name).__bases__, (errors.HallError,))

    def test_none_stands_under_another(self):
        for name in NAMES:
            for other in NAMES:
                with self.subTest(f"{name} {other}"):
                    under = issubclass(getattr(errors, name), getattr(errors, other))
                    self.assertEqual(under, name == other)

    def test_each_is_raised_with_words_and_taken_as_hall_error(self):
        for name in NAMES:
            with self.subTest(name):
                with self.assertRaises(errors.HallError) as taken:
                    raise getattr(errors, name)("some words")
                self.assertEqual(str(taken.exception), "some words")

    def test_none_takes_its_base(self):
        for name in NAMES:
            with self.subTest(name):
                self.assertFalse(issubclass(errors.HallError, getattr(errors, name)))


if __name__ == "__main__":
    unittest.main()
