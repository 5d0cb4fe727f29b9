"""[0.4]: the classes of refusals."""

import unittest

from vellum import errors
from tests.helper import REFUSALS


class Classes(unittest.TestCase):
    def test_the_root_stands_under_value_error(self):
        self.assertEqual(errors.VellumError.__bases__, (ValueError,))

    def test_all_eight_are_there(self):
        names = [one.__name__ for one in REFUSALS]
        self.assertEqual(names, [
            "NoRow", "NoPrices", "NoSlips", "NoNotes", "NoLine", "NoName", "TwiceNamed", "TooMany",
        ])
        self.assertEqual(len(set(REFUSALS)), 8)

    def test_each_stands_straight_beneath_the_root(self):
        for one in REFUSALS:
            self.assertEqual(one.__bases__, (errors.VellumError,), one)

    def test_none_stands_beneath_another(self):
        for one in REFUSALS:
            for two in REFUSALS:
                self.assertEqual(issubclass(one, two), one is two, (one, two))

    def test_each_is_taken_as_the_root_and_as_value_error(self):
        for one in REFUSALS:
            for taken in (one, errors.VellumError, ValueError):
                with self.assertRaises(taken):
                    raise one("refused")


if __name__ == "__main__":
    unittest.main()
