import unittest

from endwise import errors
from helper import REFUSALS

NAMES = [
    "NoPath", "NoText", "NoRule", "NoStep", "NoPaper", "NoHead", "NoPair",
    "NoReason", "TooMany", "TooGreat", "TooLong", "NoName", "NoLine",
]


class ErrorsTest(unittest.TestCase):
    def test_end_error_stands_straight_under_value_error(self):
        self.assertEqual((ValueError,), errors.EndError.__bases__)

    def test_each_refusal_is_there_straight_under_end_error(self):
        self.assertEqual(NAMES, [refusal.__name__ for refusal in REFUSALS])
        for name in NAMES:
            with self.subTest(name):
                self.assertEqual((errors.EndError,), getattr(errors, name).__bases__)

    def test_none_stands_under_another(self):
        for one in REFUSALS:
            for other in REFUSALS:
                self.assertEqual(one == other, issubclass(one, other), (one, other))

    def test_each_may_be_raised_with_words(self):
        for refusal in REFUSALS:
            with self.assertRaises(ValueError):
                raise refusal("some words")


if __name__ == "__main__":
    unittest.main()
