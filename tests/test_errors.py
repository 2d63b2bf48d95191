"""Promise [3]: the refusals and how their classes stand under one another."""

import unittest

from bellwrite import errors

REFUSALS = ("NoRow", "NoReading", "TooGreat", "TooMany", "NoNote", "NoOrder", "NoName")


class Refusals(unittest.TestCase):
    def test_bell_error_stands_straight_under_value_error(self):
        self.assertEqual(errors.BellError.__bases__, (ValueError,))

    def test_each_refusal_stands_straight_under_bell_error(self):
        for name in REFUSALS:
            with self.subTest(name):
                self.assertEqual(getattr(errors, name).__bases__, (errors.BellError,))

    def test_each_refusal_is_a_class_of_its_own(self):
        classes = [getattr(errors, name) for name in REFUSALS]
        for one in classes:
            for other in classes:
                with self.subTest(f"{one} {other}"):
                    self.assertEqual(issubclass(one, other), one is other)

    def test_each_refusal_bears_its_name_and_takes_words(self):
        for name in REFUSALS + ("BellError",):
            with self.subTest(name):
                refusal = getattr(errors, name)
                self.assertEqual(refusal.__name__, name)
                self.assertEqual(str(refusal("words")), "words")


if __name__ == "__main__":
    unittest.main()
