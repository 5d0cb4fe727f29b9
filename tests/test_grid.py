"""[3.1], [3.2]: the steps at the knots, and the tables of prices and of the rest."""

import unittest

from tests.helper import (
    AGAIN, CROSS, EVERY, GREAT, KEEP, LEAVE, LONG_ROWS, NOUGHTS, OTHERS, PRICE_ROWS, USUAL, VellumCase,
    all_slips, cost_of, small_pairs, steps_found,
)
from vellum.grid import knot_steps, price_table, rest_table
from vellum.slips import step_price


class Knots(VellumCase):
    def knots(self, elder, copy, awaited):
        """The steps at each knot, by rows."""
        self.assertEqual(len(awaited), len(elder) + 1)
        for i, row in enumerate(awaited):
            self.assertEqual(len(row), len(copy) + 1)
            for j, steps in enumerate(row):
                self.told(knot_steps(elder, copy, i, j), steps)

    def test_the_empty_rows(self):
        self.knots((), (), [[()]])

    def test_an_empty_copy(self):
        self.knots(("a", "b"), (), [[(LEAVE,)], [(LEAVE,)], [()]])
        self.knots(("a", "a"), (), [[(LEAVE,)], [(LEAVE, ("skip", 1))], [()]])

    def test_an_empty_elder(self):
        self.knots((), ("a", "b"), [[(("add", "a"),), (("add", "b"),), ()]])
        self.knots((), ("a", "a"), [[(("add", "a"),), (("add", "a"), AGAIN), ()]])

    def test_one_word_each(self):
        self.knots(("a",), ("a",), [[(KEEP, LEAVE, ("add", "a")), (LEAVE,)], [(("add", "a"),), ()]])
        self.knots(("a",), ("b",), [[(("turn", "b"), LEAVE, ("add", "b")), (LEAVE,)], [(("add", "b"),), ()]])

    def test_all_knots_of_three_words_and_three(self):
        a, b = ("add", "a"), ("add", "b")
        self.knots(("a", "b", "a"), ("b", "a", "a"), [
            [(("turn", "b"), LEAVE, b, CROSS), (KEEP, LEAVE, a), (KEEP, LEAVE, a, AGAIN), (LEAVE,)],
            [(KEEP, LEAVE, b, ("skip", 2)), (("turn", "a"), LEAVE, a, ("skip", 2)),
             (("turn", "a"), LEAVE, a, AGAIN, ("skip", 2)), (LEAVE, ("skip", 2))],
            [(("turn", "b"), LEAVE, b), (KEEP, LEAVE, a), (KEEP, LEAVE, a, AGAIN), (LEAVE,)],
            [(b,), (a,), (a, AGAIN), ()],
        ])

    def test_all_kinds_at_one_knot(self):
        elder, copy = ("x", "a", "x", "b", "x"), ("x", "x", "a", "x")
        self.told(knot_steps(elder, copy, 1, 1), (("turn", "x"), LEAVE, ("add", "x"), AGAIN, CROSS,
                                                  ("skip", 2), ("skip", 4)))
        self.told(knot_steps(elder, copy, 2, 1), (KEEP, LEAVE, ("add", "x"), AGAIN))

    def test_a_swap_needs_both_words_of_the_copy(self):
        elder = ("a", "b", "c")
        self.told(knot_steps(elder, ("b", "a"), 0, 0), (("turn", "b"), LEAVE, ("add", "b"), CROSS))
        for copy in (("b",), ("b", "c"), ("b", "b"), ("c", "a"), ("a", "b"), ("a", "a"), ("b", "c", "a")):
            self.assertNotIn(CROSS, knot_steps(elder, copy, 0, 0), copy)
        self.told(knot_steps(elder, ("c", "b"), 1, 0), (("turn", "c"), LEAVE, ("add", "c"), CROSS))
        self.assertNotIn(CROSS, knot_steps(elder, ("b", "c"), 2, 0))

    def test_no_swap_of_like_words(self):
        self.told(knot_steps(("a", "a"), ("a", "a"), 0, 0), (KEEP, LEAVE, ("add", "a")))

    def test_no_swap_at_the_elder_s_last_word(self):
        self.told(knot_steps(("a", "b"), ("b", "a"), 1, 0), (KEEP, LEAVE, ("add", "b")))
        self.told(knot_steps(("a", "b"), ("a", "b", "a"), 1, 1), (KEEP, LEAVE, ("add", "b")))

    def test_twice_looks_at_the_copy_alone(self):
        self.told(knot_steps(("a", "b"), ("b", "b"), 1, 0), (KEEP, LEAVE, ("add", "b")))
        self.told(knot_steps(("a", "b"), ("b", "b"), 0, 1), (("turn", "b"), LEAVE, ("add", "b"), AGAIN))
        self.told(knot_steps(("a", "b"), ("a", "b"), 1, 1), (KEEP, LEAVE, ("add", "b")))
        # Counted from behind, the word ahead of the first would be the last one.
        self.told(knot_steps((), ("a", "a"), 0, 0), (("add", "a"),))
        self.told(knot_steps(("b",), ("a", "b", "a"), 1, 0), (("add", "a"),))

    def test_skips_by_rising_length(self):
        elder = ("a",) * 40
        for i in range(1, 41):
            skips = tuple(("skip", k) for k in range(1, 41 - i))
            self.told(knot_steps(elder, (), i, 0), (LEAVE,) + skips if i < 40 else ())
        self.told(knot_steps(elder, (), 0, 0), (LEAVE,))

    def test_skips_end_with_the_word_once_more(self):
        elder = ("a", "b", "a", "b", "b", "a")
        skips = {0: (), 1: (2, 5), 2: (2, 3), 3: (3,), 4: (1,), 5: (), 6: ()}
        for i, lengths in skips.items():
            for j in range(3):
                found = [step for step in knot_steps(elder, ("x", "b"), i, j) if step[0] == "skip"]
                self.assertEqual(found, [("skip", k) for k in lengths])

    def test_no_skip_at_the_beginning(self):
        self.told(knot_steps(("a", "a"), (), 0, 0), (LEAVE,))
        self.told(knot_steps(("a", "b", "a"), ("a",), 0, 1), (LEAVE,))

    def test_every_knot_of_small_rows(self):
        for elder, copy in small_pairs():
            for i in range(len(elder) + 1):
                for j in range(len(copy) + 1):
                    awaited = tuple(step for step, done, written in steps_found(elder, copy, i, j))
                    self.told(knot_steps(elder, copy, i, j), awaited)

    def test_every_knot_of_forty_words(self):
        elder = tuple("a b a cc b a a".split() * 6)[:40]
        copy = tuple("b a a cc cc a b a".split() * 5)
        for i in range(41):
            for j in range(41):
                awaited = tuple(step for step, done, written in steps_found(elder, copy, i, j))
                self.told(knot_steps(elder, copy, i, j), awaited)


def tables_found(elder, copy, prices):
    """Both tables, knot by knot, from steps that were tried."""
    knots = [(i, j) for i in range(len(elder) + 1) for j in range(len(copy) + 1)]
    found = {knot: steps_found(elder, copy, *knot) for knot in knots}
    ahead, rest = {}, {}
    ahead[0, 0] = 0
    for i, j in knots:
        for step, done, written in found[i, j]:
            price = ahead[i, j] + step_price(elder, i, step, prices)
            ahead[done, written] = min(price, ahead.get((done, written), price))
    for i, j in reversed(knots):
        prices_on = [step_price(elder, i, step, prices) + rest[done, written] for step, done, written in found[i, j]]
        rest[i, j] = min(prices_on) if prices_on else 0
    return tuple(tuple(tuple(one[i, j] for j in range(len(copy) + 1)) for i in range(len(elder) + 1))
                 for one in (ahead, rest))


class Tables(VellumCase):
    def tables(self, elder, copy, prices, ahead, rest):
        self.told(price_table(elder, copy, prices), ahead)
        self.told(rest_table(elder, copy, prices), rest)

    def test_the_empty_rows(self):
        for prices in PRICE_ROWS:
            self.tables((), (), prices, ((0,),), ((0,),))

    def test_an_empty_elder(self):
        self.tables((), ("a", "b", "b"), USUAL, ((0, 2, 4, 5),), ((5, 3, 1, 0),))
        self.tables((), ("a", "b", "b"), (1, 1, 1, 3, 7, 1, 1), ((0, 3, 6, 9),), ((9, 6, 3, 0),))

    def test_an_empty_copy(self):
        self.tables(("a", "b"), (), USUAL, ((0,), (2,), (4,)), ((4,), (2,), (0,)))
        self.tables(("a", "b", "c", "a"), (), USUAL, ((0,), (2,), (4,), (6,), (5,)), ((5,), (3,), (4,), (2,), (0,)))

    def test_by_hand(self):
        self.tables(("a", "b", "a"), ("b", "a", "a"), USUAL,
                    ((0, 2, 4, 5), (2, 1, 2, 3), (4, 2, 1, 2), (5, 4, 2, 1)),
                    ((1, 2, 3, 5), (1, 1, 2, 3), (3, 1, 0, 2), (5, 3, 1, 0)))

    def test_like_and_turn(self):
        self.tables(("on",), ("in",), USUAL, ((0, 2), (2, 1)), ((1, 2), (2, 0)))
        self.tables(("on",), ("it",), USUAL, ((0, 2), (2, 2)), ((2, 2), (2, 0)))

    def test_prices_of_nought(self):
        for elder, copy in (((), ()), (("a",), ("b",)), (("a", "b", "a"), ("b", "b"))):
            noughts = ((0,) * (len(copy) + 1),) * (len(elder) + 1)
            self.tables(elder, copy, NOUGHTS, noughts, noughts)

    def test_the_greatest_prices(self):
        self.tables(("a",), ("b",), (GREAT,) * 7, ((0, GREAT), (GREAT, GREAT)), ((GREAT, GREAT), (GREAT, 0)))
        self.tables(("a", "b"), ("b", "a"), (GREAT,) * 6 + (0,),
                    ((0, GREAT, 2 * GREAT), (GREAT, GREAT, GREAT), (2 * GREAT, GREAT, GREAT)),
                    ((GREAT, GREAT, 2 * GREAT), (GREAT, GREAT, GREAT), (2 * GREAT, GREAT, 0)))

    def test_nought_beside_the_greatest(self):
        # A turn is dear, a lose and an add are free.
        self.tables(("a",), ("b",), (GREAT, GREAT, 0, 0, 0, 0, 0), ((0, 0), (0, 0)), ((0, 0), (0, 0)))
        # Only what is left out is free.
        self.tables(("a",), ("b",), (GREAT, GREAT, 0, GREAT, 0, 0, 0), ((0, GREAT), (0, GREAT)),
                    ((GREAT, 0), (GREAT, 0)))

    def test_against_all_rows_of_steps(self):
        for elder, copy in small_pairs():
            walks = {(i, j): all_slips(elder, copy, i, j)
                     for i in range(len(elder) + 1) for j in range(len(copy) + 1)}
            for prices in PRICE_ROWS:
                rest = rest_table(elder, copy, prices)
                ahead = price_table(elder, copy, prices)
                self.told(ahead, self.table_of_walks(elder, copy, walks[0, 0], prices))
                for (i, j), rows in walks.items():
                    self.assertEqual(rest[i][j], min(cost_of(elder, walk, prices) for walk in rows))
                self.told(rest, tuple(tuple(row) for row in rest))

    def table_of_walks(self, elder, copy, walks, prices):
        """The least price by which any walk comes to each knot; every row to a knot begins some walk."""
        least = {}
        for walk in walks:
            price = 0
            for i, j, step in walk + ((len(elder), len(copy), None),):
                least[i, j] = min(price, least.get((i, j), price))
                price += step_price(elder, i, step, prices) if step else 0
        return tuple(tuple(least[i, j] for j in range(len(copy) + 1)) for i in range(len(elder) + 1))


class FortyWords(VellumCase):
    def test_rows_that_have_no_word_in_common(self):
        for prices in ((9, 5, 3, 4, 9, 9, 9), (9, 8, 3, 4, 9, 9, 9), (GREAT,) * 7, NOUGHTS):
            lose, add = prices[2], prices[3]
            both = min(prices[1], lose + add)
            ahead = tuple(tuple(min(i, j) * both + max(i - j, 0) * lose + max(j - i, 0) * add
                                for j in range(41)) for i in range(41))
            self.told(price_table(EVERY, OTHERS, prices), ahead)
            # Turned round, the table of prices is that of the rest here.
            self.told(rest_table(EVERY, OTHERS, prices), tuple(row[::-1] for row in ahead[::-1]))

    def test_a_row_and_itself(self):
        table = price_table(EVERY, EVERY, (GREAT,) * 7)
        self.told(tuple(table[k][k] for k in range(41)), (0,) * 41)
        self.told((table[40][0], table[0][40]), (40 * GREAT, 40 * GREAT))
        rest = rest_table(EVERY, EVERY, (GREAT,) * 7)
        self.told(tuple(rest[k][k] for k in range(41)), (0,) * 41)
        self.told((rest[0][40], rest[40][0]), (40 * GREAT, 40 * GREAT))

    def test_one_word_over_and_over(self):
        elder = ("a",) * 40
        table = price_table(elder, (), (9, 9, 5, 9, 9, 9, 7))
        self.told(table, ((0,), (5,), (10,)) + ((12,),) * 38)
        rest = rest_table(elder, (), (9, 9, 5, 9, 9, 9, 7))
        self.told(rest, ((12,),) + ((7,),) * 38 + ((5,), (0,)))
        self.told(price_table((), elder, (9, 9, 9, 5, 2, 9, 9)), ((0,) + tuple(5 + 2 * k for k in range(40)),))

    def test_against_steps_that_were_tried(self):
        for place, elder in enumerate(LONG_ROWS):
            for copy in LONG_ROWS[place % 2::2]:
                prices = PRICE_ROWS[place]
                ahead, rest = tables_found(elder, copy, prices)
                self.told(price_table(elder, copy, prices), ahead)
                self.told(rest_table(elder, copy, prices), rest)


if __name__ == "__main__":
    unittest.main()
