import unittest

from poolrules import errors
from poolrules.errors import PoolError

REFUSALS = (
    "NoLine", "NoKind", "BadArgs", "NoFact", "Twice", "BadTake", "BadCall",
    "NoName", "NoStep", "NotFitting", "TooGreat", "NoFall", "NoPool",
)


class ErrorsTest(unittest.TestCase):
    def test_pool_error_stands_under_value_error(self):
        self.assertEqual(PoolError.__bases__, (ValueError,))

    def test_each_refusal_stands_under_pool_error_alone(self):
        for name in REFUSALS:
            with self.subTest(name):
                self.assertEqual(getattr(errors, name).__bases__, (PoolError,))

    def test_each_refusal_is_raised_with_words(self):
        for name in REFUSALS:
            with self.subTest(name), self.assertRaises(ValueError):
                raise getattr(errors, name)("words")


if __name__ == "__main__":
    unittest.main()
