"""[3.3], [3.5]: the told cheapest steps, how many cheapest rows there are, and the sure pairs."""

import math
import unittest

from tests.helper import (
    AGAIN, CROSS, EVERY, GREAT, KEEP, LEAVE, LONG_ROWS, NOUGHTS, OTHERS, PRICE_ROWS, USUAL, VellumCase,
    all_slips, cost_of, small_pairs,
)
from vellum.grid import knot_steps, price_table, rest_table
from vellum.least import cheapest_many, least_slips, sure_pairs
from vellum.slips import copy_made, slips_price, step_after, step_price


class Told(VellumCase):
    def cheapest(self, elder, copy, prices, price, steps):
        self.told(least_slips(elder, copy, prices), (price, steps, price_table(elder, copy, prices)))

    def test_the_empty_rows(self):
        self.told(least_slips((), (), USUAL), (0, (), ((0,),)))

    def test_one_empty_row(self):
        self.told(least_slips(("a", "b"), (), USUAL), (4, (LEAVE, LEAVE), ((0,), (2,), (4,))))
        self.told(least_slips((), ("a", "a"), USUAL), (3, (("add", "a"), AGAIN), ((0, 2, 3),)))

    def test_like_rows(self):
        for prices in PRICE_ROWS:
            self.cheapest(("in", "the", "house"), ("in", "the", "house"), prices, 0, (KEEP,) * 3)

    def test_each_slip(self):
        self.cheapest(("in", "the"), ("in", "she"), USUAL, 1, (KEEP, ("turn", "she")))
        self.cheapest(("in", "the"), ("in", "house"), USUAL, 2, (KEEP, ("turn", "house")))
        self.cheapest(("in", "the"), ("the",), USUAL, 2, (LEAVE, KEEP))
        self.cheapest(("in", "the"), ("in", "all", "the"), USUAL, 2, (KEEP, ("add", "all"), KEEP))
        self.cheapest(("in", "the"), ("in", "in", "the"), USUAL, 1, (KEEP, AGAIN, KEEP))
        self.cheapest(("in", "the"), ("the", "in"), USUAL, 1, (CROSS,))
        self.cheapest(("in", "the", "old", "the", "house"), ("in", "the", "house"), USUAL, 3,
                      (KEEP, KEEP, ("skip", 2), KEEP))

    def test_the_first_one_of_several(self):
        # The dropped word may be either one: a keep comes first.
        self.cheapest(("a", "a"), ("a",), USUAL, 2, (KEEP, LEAVE))
        # An add costs as much as a twice, and a lose as much as a skip.
        self.cheapest(("a",), ("a", "a"), (9, 9, 9, 5, 5, 9, 9), 5, (KEEP, ("add", "a")))
        self.cheapest(("a", "a", "b"), ("a", "b"), (9, 9, 5, 9, 9, 9, 5), 5, (KEEP, LEAVE, KEEP))
        # A turn comes ahead of lose and add, these ahead of a swap.
        self.cheapest(("a",), ("b",), (4, 4, 2, 2, 9, 9, 9), 4, (("turn", "b"),))
        self.cheapest(("a", "b"), ("b", "a"), (3, 3, 3, 3, 3, 6, 3), 6, (("turn", "b"), ("turn", "a")))
        self.cheapest(("a", "b"), ("b", "a"), (4, 4, 3, 3, 3, 6, 3), 6, (LEAVE, KEEP, ("add", "a")))
        self.cheapest(("a", "b"), ("b", "a"), (4, 4, 4, 4, 4, 6, 4), 6, (CROSS,))
        # Of two skips the shorter one, where both lead on as cheaply.
        self.cheapest(("a", "b", "a", "b", "a"), (), (9, 9, 1, 9, 9, 9, 0), 1, (LEAVE, ("skip", 2), ("skip", 2)))

    def test_all_prices_nought(self):
        self.cheapest(("a", "b"), ("c",), NOUGHTS, 0, (("turn", "c"), LEAVE))
        self.cheapest(("a",), ("b", "b", "a"), NOUGHTS, 0, (("turn", "b"), ("add", "b"), ("add", "a")))
        self.cheapest(("a", "b"), ("b", "a"), NOUGHTS, 0, (("turn", "b"), ("turn", "a")))

    def test_a_knot_s_first_step_may_lead_to_dearer_rows(self):
        # A turn stands at the first knot.
        self.cheapest(("a", "b"), ("b",), USUAL, 2, (LEAVE, KEEP))
        self.cheapest(("a", "b"), ("c", "a", "b"), USUAL, 2, (("add", "c"), KEEP, KEEP))
        self.cheapest(("a", "b"), ("b", "a"), USUAL, 1, (CROSS,))
        # A keep stands at the second knot, but then two words are to be lost.
        self.cheapest(("p", "a", "p", "b", "a"), ("p", "a", "b"), (9, 9, 9, 9, 9, 1, 1), 2, (KEEP, ("skip", 2), CROSS))
        # An add costs more than the twice behind it, a lose more than the skip.
        self.cheapest(("a",), ("a", "a", "a"), USUAL, 2, (KEEP, AGAIN, AGAIN))
        self.cheapest(("a", "b", "c", "a"), ("a",), USUAL, 3, (KEEP, ("skip", 3)))

    def test_against_all_rows_of_steps(self):
        for elder, copy in small_pairs():
            for prices in PRICE_ROWS:
                walks = all_slips(elder, copy)
                costs = [cost_of(elder, walk, prices) for walk in walks]
                first = walks[costs.index(min(costs))]
                self.cheapest(elder, copy, prices, min(costs), tuple(step for i, j, step in first))

    def test_forty_words(self):
        self.cheapest(EVERY, EVERY, USUAL, 0, (KEEP,) * 40)
        self.cheapest(EVERY, OTHERS, (9, 5, 3, 4, 9, 9, 9), 200, tuple(("turn", word) for word in OTHERS))
        self.cheapest(EVERY, OTHERS, (9, 8, 3, 4, 9, 9, 9), 280,
                      (LEAVE,) * 40 + tuple(("add", word) for word in OTHERS))
        self.cheapest(EVERY, OTHERS, (GREAT,) * 7, 40 * GREAT, tuple(("turn", word) for word in OTHERS))
        self.cheapest(EVERY, (), (GREAT,) * 7, 40 * GREAT, (LEAVE,) * 40)
        self.cheapest((), EVERY, (GREAT,) * 7, 40 * GREAT, tuple(("add", word) for word in EVERY))

    def test_long_rows_go_by_the_first_cheapest_step(self):
        for place, elder in enumerate(LONG_ROWS):
            for copy in LONG_ROWS:
                self.first_at_each_knot(elder, copy, PRICE_ROWS[place])

    def first_at_each_knot(self, elder, copy, prices):
        """Each step leads on as cheaply as can be, and none ahead of it at its knot does."""
        price, steps, table = least_slips(elder, copy, prices)
        self.told(table, price_table(elder, copy, prices))
        self.assertEqual(price, table[-1][-1])
        self.assertEqual(copy_made(elder, steps), copy)
        self.assertEqual(slips_price(elder, steps, prices), price)
        rest = rest_table(elder, copy, prices)
        i = j = 0
        for step in steps:
            for other in knot_steps(elder, copy, i, j):
                done, words = step_after(elder, i, copy[j - 1] if j else None, other)
                cost = step_price(elder, i, other, prices) + rest[done][j + len(words)]
                if other == step:
                    self.assertEqual(cost, rest[i][j])
                    break
                self.assertGreater(cost, rest[i][j])
            i, j = done, j + len(words)

    def test_the_same_each_time(self):
        one = least_slips(("a", "b", "a"), ("b", "a"), USUAL)
        two = least_slips(("a", "b", "a"), ("b", "a"), NOUGHTS)
        self.assertNotEqual(one, two)
        self.told(least_slips(("a", "b", "a"), ("b", "a"), USUAL), one)


class HowMany(VellumCase):
    def test_the_empty_rows(self):
        for prices in PRICE_ROWS:
            self.told(cheapest_many((), (), prices), 1)

    def test_by_hand(self):
        self.told(cheapest_many(("a",), ("a",), USUAL), 1)
        self.told(cheapest_many(("a", "a"), ("a",), USUAL), 2)
        self.told(cheapest_many(("a",), ("a", "a"), USUAL), 1)
        # Either a is added, ahead or behind; behind, a twice is one more.
        self.told(cheapest_many(("a",), ("a", "a"), (9, 9, 9, 5, 5, 9, 9)), 3)
        # A turn; or lose and add, in either order.
        self.told(cheapest_many(("a",), ("b",), (4, 4, 2, 2, 9, 9, 9)), 3)

    def test_an_add_and_a_twice_are_two(self):
        for many in range(1, 41):
            self.told(cheapest_many((), ("a",) * many, (9, 9, 9, 5, 5, 9, 9)), 2 ** (many - 1))
            self.told(cheapest_many((), ("a",) * many, (9, 9, 9, 5, 4, 9, 9)), 1)

    def test_a_lose_and_skips_are_several(self):
        """With no price, one a over and over is left out in as many ways as every second Fibonacci number tells."""
        one, two = 1, 2
        for many in range(1, 41):
            self.told(cheapest_many(("a",) * many, (), NOUGHTS), one)
            one, two = two, 3 * two - one

    def test_all_prices_nought(self):
        for m, n in ((0, 0), (1, 1), (2, 1), (3, 3), (7, 12), (40, 0), (0, 40), (40, 40)):
            ways = sum(math.comb(m, k) * math.comb(n, k) * 2 ** k for k in range(min(m, n) + 1))
            self.told(cheapest_many(EVERY[:m], OTHERS[:n], NOUGHTS), ways)

    def test_forty_words(self):
        self.told(cheapest_many(EVERY, EVERY, USUAL), 1)
        self.told(cheapest_many(EVERY, OTHERS, (9, 5, 3, 4, 9, 9, 9)), 1)
        self.told(cheapest_many(EVERY, OTHERS, (9, 8, 3, 4, 9, 9, 9)), math.comb(80, 40))
        self.told(cheapest_many(("a",) * 40, ("a",) * 39, USUAL), 40)

    def test_against_all_rows_of_steps(self):
        for elder, copy in small_pairs():
            for prices in PRICE_ROWS:
                costs = [cost_of(elder, walk, prices) for walk in all_slips(elder, copy)]
                self.told(cheapest_many(elder, copy, prices), costs.count(min(costs)))


class Sure(VellumCase):
    def test_the_empty_rows(self):
        for prices in PRICE_ROWS:
            self.told(sure_pairs((), (), prices), ())
            self.told(sure_pairs(("a",), (), prices), ())
            self.told(sure_pairs((), ("a",), prices), ())

    def test_by_hand(self):
        self.told(sure_pairs(("a", "b"), ("a", "b"), USUAL), ((0, 0), (1, 1)))
        self.told(sure_pairs(("a", "b", "c"), ("a", "c"), USUAL), ((0, 0), (2, 1)))
        self.told(sure_pairs(("a", "c"), ("a", "b", "c"), USUAL), ((0, 0), (1, 2)))
        self.told(sure_pairs(("a", "b"), ("b", "a"), USUAL), ())
        self.told(sure_pairs(("a",), ("b",), USUAL), ())

    def test_a_keep_of_some_cheapest_row_alone(self):
        # The a may be the first or the second one of the elder.
        self.told(sure_pairs(("a", "a"), ("a",), USUAL), ())
        self.told(sure_pairs(("x", "a", "a", "y"), ("x", "a", "y"), USUAL), ((0, 0), (3, 2)))
        # It is the first, where only a skip is cheap.
        self.told(sure_pairs(("a", "a"), ("a",), (9, 9, 9, 9, 9, 9, 1)), ((0, 0),))
        # The first word is lost.
        self.told(sure_pairs(("b", "a"), ("a",), USUAL), ((1, 0),))

    def test_all_prices_nought(self):
        self.told(sure_pairs(("a", "b"), ("a", "b"), NOUGHTS), ())
        self.told(sure_pairs(EVERY, EVERY, NOUGHTS), ())

    def test_a_keep_is_sure_where_one_side_alone_is_free(self):
        self.told(sure_pairs(("a",), ("a",), (0, 0, 0, 1, 0, 0, 0)), ((0, 0),))
        self.told(sure_pairs(("a",), ("a",), (0, 0, 1, 0, 0, 0, 0)), ((0, 0),))

    def test_forty_words(self):
        self.told(sure_pairs(EVERY, EVERY, USUAL), tuple((k, k) for k in range(40)))
        self.told(sure_pairs(EVERY, EVERY, (GREAT,) * 7), tuple((k, k) for k in range(40)))
        self.told(sure_pairs(EVERY, EVERY[1:], USUAL), tuple((k + 1, k) for k in range(39)))
        self.told(sure_pairs(EVERY[1:], EVERY, USUAL), tuple((k, k + 1) for k in range(39)))
        self.told(sure_pairs(EVERY, OTHERS, USUAL), ())

    def test_against_all_rows_of_steps(self):
        for elder, copy in small_pairs():
            for prices in PRICE_ROWS:
                walks = all_slips(elder, copy)
                costs = [cost_of(elder, walk, prices) for walk in walks]
                kept = [{(i, j) for i, j, step in walk if step == KEEP}
                        for walk, cost in zip(walks, costs) if cost == min(costs)]
                self.told(sure_pairs(elder, copy, prices), tuple(sorted(set.intersection(*kept))))


if __name__ == "__main__":
    unittest.main()
