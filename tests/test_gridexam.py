"""[3.4]: the examiner of price, steps and table."""

import itertools
import unittest

from tests.helper import (
    AGAIN, CROSS, EVERY, GREAT, KEEP, LEAVE, LONG_ROWS, NOUGHTS, OTHERS, PRICE_ROWS, USUAL, VellumCase,
    all_slips, cost_of, short_rows, small_pairs, steps_found,
)
from vellum.errors import NoSlips
from vellum.grid import rest_table
from vellum.gridexam import slips_stand
from vellum.least import least_slips
from vellum.slips import copy_made, slips_price, step_price

ELDER = ("a", "b", "a")
COPY = ("b", "a", "a")
PRICE = 1
STEPS = (CROSS, KEEP)
TABLE = ((0, 2, 4, 5), (2, 1, 2, 3), (4, 2, 1, 2), (5, 4, 2, 1))


def put(table, i, j, number):
    """The table with another number at a knot."""
    rows = [list(row) for row in table]
    rows[i][j] = number
    return tuple(tuple(row) for row in rows)


def turned_rest(elder, copy, prices):
    """Another table that is to be taken: the least price but for what the rest costs."""
    rest = rest_table(elder, copy, prices)
    return tuple(tuple(rest[0][0] - number for number in row) for row in rest)


class Taken(VellumCase):
    def taken(self, *paper):
        self.told(slips_stand(*paper), True)

    def test_the_empty_rows(self):
        for prices in PRICE_ROWS:
            self.taken((), (), prices, 0, (), ((0,),))

    def test_by_hand(self):
        self.taken(ELDER, COPY, USUAL, PRICE, STEPS, TABLE)
        self.taken(("a",), (), USUAL, 2, (LEAVE,), ((0,), (2,)))
        self.taken((), ("a", "a"), USUAL, 3, (("add", "a"), AGAIN), ((0, 2, 3),))
        self.taken(("a",), ("b",), USUAL, 1, (("turn", "b"),), ((0, 2), (2, 1)))

    def test_lesser_numbers_elsewhere(self):
        self.taken(("a",), ("b",), USUAL, 1, (("turn", "b"),), ((0, 0), (0, 1)))
        self.taken(("a",), ("b",), USUAL, 1, (("turn", "b"),), ((0, -1), (2, 1)))
        self.taken(("a",), ("b",), USUAL, 1, (("turn", "b"),), ((0, -1), (-1, 1)))

    def test_what_least_slips_tells(self):
        for elder, copy in small_pairs():
            for prices in PRICE_ROWS:
                self.taken(elder, copy, prices, *least_slips(elder, copy, prices))

    def test_another_table(self):
        for elder, copy in small_pairs():
            price, steps, table = least_slips(elder, copy, USUAL)
            self.taken(elder, copy, USUAL, price, steps, turned_rest(elder, copy, USUAL))

    def test_every_cheapest_row_of_steps(self):
        for elder, copy in (("a", "a"), ("a",)), (("a",), ("b", "b")), (("a", "b"), ("b", "a", "a")):
            for prices in (USUAL, NOUGHTS, (GREAT,) * 7):
                price, steps, table = least_slips(elder, copy, prices)
                for walk in all_slips(elder, copy):
                    steps = tuple(step for i, j, step in walk)
                    self.told(slips_stand(elder, copy, prices, price, steps, table),
                              cost_of(elder, walk, prices) == price)

    def test_forty_words(self):
        for place, elder in enumerate(LONG_ROWS + [EVERY]):
            for copy in (LONG_ROWS[-1 - place], EVERY, OTHERS) if elder != EVERY else (EVERY, OTHERS, ()):
                prices = PRICE_ROWS[place]
                price, steps, table = least_slips(elder, copy, prices)
                self.taken(elder, copy, prices, price, steps, table)
                self.taken(elder, copy, prices, price, steps, turned_rest(elder, copy, prices))

    def test_what_is_handed_in_stays_as_it_was(self):
        paper = (ELDER, COPY, USUAL, PRICE, STEPS, TABLE)
        ahead = repr(paper)
        slips_stand(*paper)
        self.assertEqual(repr(paper), ahead)


class NotTaken(VellumCase):
    def barred(self, price=PRICE, steps=STEPS, table=TABLE):
        self.told(slips_stand(ELDER, COPY, USUAL, price, steps, table), False)

    def test_another_price(self):
        for price in (-1, 0, 2, 3, 100, GREAT, 100 * GREAT):
            self.barred(price=price)
            self.barred(price=price, table=put(TABLE, 3, 3, price))

    def test_steps_that_cost_more(self):
        steps = (LEAVE, KEEP, KEEP, AGAIN)
        self.assertEqual(copy_made(ELDER, steps), COPY)
        self.barred(steps=steps)
        self.barred(price=3, steps=steps)
        self.barred(price=3, steps=steps, table=put(TABLE, 3, 3, 3))

    def test_steps_that_make_another_copy(self):
        for steps in ((CROSS, ("turn", "b")), (CROSS, KEEP, AGAIN), (KEEP, KEEP, KEEP), (KEEP, ("turn", "a"), KEEP),
                      (KEEP, ("turn", "c"), KEEP), (LEAVE, CROSS)):
            copy_made(ELDER, steps)
            self.barred(steps=steps)
            self.barred(price=slips_price(ELDER, steps, USUAL), steps=steps)

    def test_another_copy_of_the_same_price(self):
        self.told(slips_stand(("a",), ("b",), USUAL, 1, (("turn", "b"),), ((0, 2), (2, 1))), True)
        self.told(slips_stand(("a",), ("b",), USUAL, 1, (("turn", "c"),), ((0, 2), (2, 1))), False)

    def test_steps_that_leave_words(self):
        for steps in ((), (CROSS,), (KEEP,), (("add", "b"), ("add", "a"), AGAIN)):
            self.barred(steps=steps)

    def test_steps_that_can_not_be_made(self):
        for steps in ((CROSS, KEEP, KEEP), (CROSS, CROSS), (AGAIN, CROSS, KEEP), (("skip", 1), CROSS, KEEP),
                      (("turn", "a"), KEEP, KEEP), (CROSS, KEEP, ("skip", 80)), (CROSS, KEEP, LEAVE),
                      (CROSS, ("turn", "a")), (KEEP, ("skip", 1), KEEP), (CROSS, KEEP, ("turn", "b"))):
            self.refused(NoSlips, copy_made, ELDER, steps)
            self.barred(steps=steps)

    def test_eighty_steps_of_no_use(self):
        for step in (KEEP, ("turn", "x"), LEAVE, ("add", "a"), AGAIN, CROSS, ("skip", 1), ("skip", 80)):
            self.barred(steps=(step,) * 80)
            self.barred(steps=STEPS + (step,) * 78)
            self.told(slips_stand((), (), NOUGHTS, 0, (step,) * 80, ((0,),)), False)

    def test_the_first_number(self):
        for number in (-1, 1, 2, GREAT, -GREAT):
            self.barred(table=put(TABLE, 0, 0, number))
            self.told(slips_stand((), (), USUAL, 0, (), ((number,),)), False)
            self.told(slips_stand((), (), USUAL, number, (), ((number,),)), False)
        raised = tuple(tuple(number + 1 for number in row) for row in TABLE)
        self.barred(table=raised)
        self.barred(price=2, table=raised)
        # Steps and last number are right, and no number is too great beside another one.
        self.barred(table=put(raised, 3, 3, 1))

    def test_the_last_number(self):
        for number in (-1, 0, 2, 3, GREAT):
            self.barred(table=put(TABLE, 3, 3, number))

    def test_a_number_too_great(self):
        for i, j in itertools.product(range(4), repeat=2):
            self.barred(table=put(TABLE, i, j, TABLE[i][j] + 1))
            self.barred(table=put(TABLE, i, j, TABLE[i][j] + 100 * GREAT))

    def test_a_number_too_small_for_the_one_behind_it(self):
        self.barred(table=put(TABLE, 2, 2, 0))
        self.barred(table=put(TABLE, 1, 2, -1))
        self.barred(table=put(TABLE, 3, 2, -1))

    def test_each_kind_of_step_bounds_the_number_at_its_end(self):
        # Nothing but the step in question leads so cheaply to the last knot.
        dear = 1000
        for elder, copy, place, steps in (
                (("a",), ("b",), 0, (("turn", "b"),)), (("a",), ("cc",), 1, (("turn", "cc"),)),
                (("a",), (), 2, (LEAVE,)), ((), ("a",), 3, (("add", "a"),)),
                (("a",), ("a", "a"), 4, (KEEP, AGAIN)), (("a", "b"), ("b", "a"), 5, (CROSS,)),
                (("a", "b", "a"), ("a",), 6, (KEEP, ("skip", 2)))):
            prices = (dear,) * place + (7,) + (dear,) * (6 - place)
            price, told, table = least_slips(elder, copy, prices)
            self.assertEqual((price, told), (7, steps))
            self.told(slips_stand(elder, copy, prices, 7, steps, table), True)
            # With another price the same steps stand no longer.
            other = prices[:place] + (6,) + prices[place + 1:]
            self.told(slips_stand(elder, copy, other, 7, steps, table), False)
            self.told(slips_stand(elder, copy, other, 6, steps, table), False)
            self.dearer_steps(elder, copy, prices, table)

    def dearer_steps(self, elder, copy, prices, table):
        """Each dearer row of steps is barred, whose price stands at the last knot."""
        for walk in all_slips(elder, copy):
            cost = cost_of(elder, walk, prices)
            steps = tuple(step for i, j, step in walk)
            self.told(slips_stand(elder, copy, prices, cost, steps, put(table, len(elder), len(copy), cost)), cost == 7)

    def test_rows_too_few_or_too_many(self):
        self.barred(table=TABLE[:3])
        self.barred(table=TABLE[1:])
        self.barred(table=TABLE[:1])
        self.barred(table=TABLE[:3] + TABLE[3:] * 2)
        self.barred(table=TABLE + ((),))
        self.barred(table=TABLE[:3] + ((5, 4, 2, 9), (5, 4, 2, 1)))
        self.barred(table=TABLE * 100)

    def test_columns_too_few_or_too_many(self):
        for i in range(4):
            for row in ((), TABLE[i][:1], TABLE[i][:3], TABLE[i][1:], TABLE[i] + (TABLE[i][3],), TABLE[i] * 100):
                self.barred(table=TABLE[:i] + (row,) + TABLE[i + 1:])
        self.barred(table=tuple(row[:3] for row in TABLE))
        self.barred(table=tuple(row + row[3:] for row in TABLE))

    def test_an_empty_table(self):
        for table in ((), ((),), ((),) * 4, ((),) * 5, TABLE[:3] + ((),)):
            self.barred(table=table)
            self.told(slips_stand((), (), USUAL, 0, (), table), False)

    def test_a_table_of_other_rows(self):
        for table in ((), ((),), ((0, 0),), ((0,), (0,)), ((0,), ()), ((), (0,)), ((0, 0), (0, 0))):
            self.told(slips_stand((), (), NOUGHTS, 0, (), table), False)
        # As many numbers, with rows and columns changed.
        self.told(slips_stand(("a",), (), NOUGHTS, 0, (LEAVE,), ((0, 0),)), False)
        self.told(slips_stand((), ("a",), NOUGHTS, 0, (("add", "a"),), ((0,), (0,))), False)

    def test_forty_words(self):
        elder, copy = LONG_ROWS[4], LONG_ROWS[2]
        price, steps, table = least_slips(elder, copy, USUAL)
        for i, j in ((0, 0), (0, 40), (40, 0), (17, 23), (40, 40), (39, 40), (1, 1)):
            self.told(slips_stand(elder, copy, USUAL, price, steps, put(table, i, j, table[i][j] + 1)), False)
        self.told(slips_stand(elder, copy, USUAL, price + 1, steps, table), False)
        self.told(slips_stand(elder, copy, USUAL, price, steps[:-1], table), False)
        self.told(slips_stand(elder, copy, USUAL, price, steps, table[:40]), False)


def stands_otherwise(elder, copy, prices, price, steps, table):
    """[3.4] told once more, of a table that has the right shape."""
    try:
        fits = copy_made(elder, steps) == copy and slips_price(elder, steps, prices) == price
    except NoSlips:
        return False
    for i, row in enumerate(table):
        for j, number in enumerate(row):
            for step, done, written in steps_found(elder, copy, i, j):
                fits = fits and table[done][written] - number <= step_price(elder, i, step, prices)
    return fits and table[0][0] == 0 and table[len(elder)][len(copy)] == price


class EverySmallPaper(VellumCase):
    def test_against_the_other_telling(self):
        """All small numbers in tables of up to four of them; what is taken has the least price."""
        numbers = range(-1, 3)
        taken = barred = 0
        for elder, copy in itertools.product(short_rows(("a", "b"), 2), repeat=2):
            m, n = len(elder) + 1, len(copy) + 1
            if m * n > 4:
                continue
            walks = all_slips(elder, copy)
            for prices in (USUAL, NOUGHTS, (1, 1, 1, 0, 0, 1, 0)):
                least = min(cost_of(elder, walk, prices) for walk in walks)
                papers = [tuple(step for i, j, step in walk) for walk in walks] + [()]
                for flat in itertools.product(numbers, repeat=m * n):
                    table = tuple(flat[i * n:(i + 1) * n] for i in range(m))
                    for price, steps in itertools.product(numbers, papers):
                        found = slips_stand(elder, copy, prices, price, steps, table)
                        self.assertIs(found, stands_otherwise(elder, copy, prices, price, steps, table))
                        self.assertTrue(price == least or not found)
                        taken += found
                        barred += not found
        self.assertGreater(taken, 100)
        self.assertGreater(barred, 10000)


if __name__ == "__main__":
    unittest.main()
