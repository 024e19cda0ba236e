import unittest

from chancehouse import errors
from helper import REFUSALS


class Refusals(unittest.TestCase):
    def test_any_refusal_is_a_value_error(self):
        self.assertEqual(errors.ChanceError.__bases__, (ValueError,))

    def test_each_refusal_stands_straight_under_chance_error(self):
        for refusal in REFUSALS:
            with self.subTest(refusal=refusal.__name__):
                self.assertEqual(refusal.__bases__, (errors.ChanceError,))

    def test_none_stands_under_another_one(self):
        for one in REFUSALS:
            for other in REFUSALS:
                self.assertEqual(issubclass(one, other), one is other)

    def test_the_names_are_those_of_the_interface(self):
        names = ["NoNumber", "NoRow", "NoRule", "NoAnswer", "NoText", "NoName", "NoHouse", "NoWord"]
        self.assertEqual([refusal.__name__ for refusal in REFUSALS], names)

    def test_a_refusal_takes_words(self):
        for refusal in REFUSALS + (errors.ChanceError,):
            self.assertEqual(str(refusal("some words")), "some words")


if __name__ == "__main__":
    unittest.main()
