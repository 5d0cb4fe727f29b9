"""The examiner of a price, a row of steps and a table: it takes no price but the least one."""

from vellum.errors import NoSlips
from vellum.grid import knot_ways
from vellum.slips import copy_made, slips_price, step_price


def steps_stand(elder, copy, prices, price, steps):
    try:
        return copy_made(elder, steps) == copy and slips_price(elder, steps, prices) == price
    except NoSlips:
        return False


def has_shape(elder, copy, table):
    return len(table) == len(elder) + 1 and all([len(row) == len(copy) + 1 for row in table])


def knot_stands(elder, copy, prices, table, i, j):
    for step, done, written in knot_ways(elder, copy, i, j):
        if table[done][written] > table[i][j] + step_price(elder, i, step, prices):
            return False
    return True


# Such a table bounds from below what any row of steps costs: along its steps
# the numbers can rise by no more than their prices.
def table_stands(elder, copy, prices, price, table):
    # A table of another shape has no number for some knot, so this is asked first.
    if not has_shape(elder, copy, table):
        return False
    if table[0][0] != 0 or table[-1][-1] != price:
        return False
    for i in range(len(elder) + 1):
        for j in range(len(copy) + 1):
            if not knot_stands(elder, copy, prices, table, i, j):
                return False
    return True


def slips_stand(elder, copy, prices, price, steps, table):
    return steps_stand(elder, copy, prices, price, steps) and table_stands(elder, copy, prices, price, table)
