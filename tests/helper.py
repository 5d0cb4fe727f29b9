"""What several test files need."""

import functools
import itertools
import unittest

from vellum import errors
from vellum.slips import step_after, step_price

REFUSALS = (
    errors.NoRow, errors.NoPrices, errors.NoSlips, errors.NoNotes,
    errors.NoLine, errors.NoName, errors.TwiceNamed, errors.TooMany,
)

KEEP = ("keep",)
LEAVE = ("lose",)
AGAIN = ("twice",)
CROSS = ("swap",)

# Seven prices each: ordinary ones, all nought, all as great as can be, some of
# these among others, and ones of which each sum tells what it is a sum of.
PRICE_ROWS = (
    (1, 2, 2, 2, 1, 1, 3),
    (0,) * 7,
    (10 ** 30,) * 7,
    (0, 10 ** 30, 0, 10 ** 30, 1, 10 ** 30, 0),
    (10 ** 30, 1, 10 ** 30, 0, 0, 1, 2),
    (3, 4, 2, 2, 2, 4, 2),
    (1, 10, 100, 1000, 10000, 100000, 1000000),
)

GREAT = 10 ** 30
USUAL = PRICE_ROWS[0]
NOUGHTS = (0,) * 7

# Forty words, no two of them alike; and as many that share none with them and look like none of them.
EVERY = tuple("e" * (1 + k // 26) + chr(97 + k % 26) for k in range(40))
OTHERS = tuple("xyz" + "x" * (k // 26) + chr(97 + k % 26) for k in range(40))
# Rows of forty words, with words that come again and again.
LONG_ROWS = [tuple(text.split() * 40)[:40] for text in (
    "a", "a b", "b a cc", "cc cc a b b", "the house of the king of the land", "b cc a a b a cc")]


def short_rows(words, most):
    """Every row of at most so many words, all of them among these."""
    return [row for many in range(most + 1) for row in itertools.product(words, repeat=many)]


def small_pairs():
    """Elders and copies, few enough that all rows of steps can be gone through one by one."""
    pairs = set(itertools.product(short_rows(("a", "b", "cc"), 2), repeat=2))
    pairs |= set(itertools.product(short_rows(("a", "b"), 3), repeat=2))
    pairs |= set(itertools.product(itertools.product(("a", "cc"), repeat=4), short_rows(("a", "cc"), 2)))
    pairs |= set(itertools.product(itertools.permutations(("a", "b", "cc")), repeat=2))
    return sorted(pairs)


def steps_found(elder, copy, i, j):
    """[3.1] as it stands: steps are tried one by one, each told with the knot to which it leads."""
    last = copy[j - 1] if j > 0 else None
    words = list(dict.fromkeys(copy))
    tried = [KEEP] + [("turn", word) for word in words] + [LEAVE] + [("add", word) for word in words]
    tried += [AGAIN, CROSS] + [("skip", k) for k in range(1, len(elder) + 2)]
    found = []
    for step in tried:
        try:
            done, written = step_after(elder, i, last, step)
        except errors.NoSlips:
            continue
        if copy[j:j + len(written)] == written:
            found.append((step, done, j + len(written)))
    return found


@functools.lru_cache(maxsize=100)
def all_slips(elder, copy, i=0, j=0):
    """Every row of steps from the knot (i, j) to the last one, each step with its knot; in the order of [3.3]."""
    if (i, j) == (len(elder), len(copy)):
        return [()]
    return [((i, j, step),) + rest for step, done, written in steps_found(elder, copy, i, j)
            for rest in all_slips(elder, copy, done, written)]


def cost_of(elder, walk, prices):
    return sum(step_price(elder, i, step, prices) for i, j, step in walk)


def is_told(value):
    """Whether a value is one that may be told: tuples all the way down."""
    if type(value) is tuple:
        return all(is_told(part) for part in value)
    return value is None or type(value) in (int, str, bool)


class VellumCase(unittest.TestCase):
    def told(self, value, awaited):
        """The value is the awaited one, of the same kinds all the way down."""
        self.assertTrue(is_told(value), value)
        self.assertEqual(repr(value), repr(awaited))

    def refused(self, kind, ask, *things):
        """The call refuses with just that class, and leaves what it got as it was."""
        ahead = repr(things)
        with self.assertRaises(errors.VellumError, msg=ahead) as caught:
            ask(*things)
        found = caught.exception
        self.assertIsInstance(found, ValueError)
        self.assertEqual([one for one in REFUSALS if isinstance(found, one)], [kind], ahead)
        self.assertIs(type(found), kind)
        self.assertEqual(repr(things), ahead)
