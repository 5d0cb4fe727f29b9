"""What several test files need."""

import unittest

from vellum import errors

REFUSALS = (
    errors.NoRow, errors.NoPrices, errors.NoSlips, errors.NoNotes,
    errors.NoLine, errors.NoName, errors.TwiceNamed, errors.TooMany,
)


def is_told(value):
    """Whether a value is one that may be told: tuples all the way down."""
    if type(value) is tuple:
        return all(is_told(part) for part in value)
    return value is None or type(value) in (int, str, bool)


class VellumCase(unittest.TestCase):
    def told(self, value, awaited):
        """The value is the awaited one, of the same kinds all the way down."""
        self.assertTrue(is_told(value), value)
        self.assertEqual(repr(value), repr(awaited))

    def refused(self, kind, ask, *things):
        """The call refuses with just that class, and leaves what it got as it was."""
        ahead = repr(things)
        with self.assertRaises(errors.VellumError, msg=ahead) as caught:
            ask(*things)
        found = caught.exception
        self.assertIsInstance(found, ValueError)
        self.assertEqual([one for one in REFUSALS if isinstance(found, one)], [kind], ahead)
        self.assertIs(type(found), kind)
        self.assertEqual(repr(things), ahead)
