"""The grid of an elder and a copy: the steps at its knots, and its tables of prices."""

from vellum.slips import step_price


def swap_writes(elder, copy, i, j):
    if i + 1 >= len(elder) or elder[i] == elder[i + 1]:
        return False
    return copy[j:j + 2] == (elder[i + 1], elder[i])


def skip_lengths(elder, i):
    if i == 0:
        return []
    return [k for k in range(1, len(elder) - i + 1) if elder[i + k - 1] == elder[i - 1]]


# The steps at a knot in their order, each with the knot to which it leads: so
# many words are done and written there. No way leads to a lesser knot, so that
# a walk through the rising knots has gone all the ways to a knot ahead of it.
def knot_ways(elder, copy, i, j):
    ways = []
    if i < len(elder) and j < len(copy):
        step = ("keep",) if elder[i] == copy[j] else ("turn", copy[j])
        ways.append((step, i + 1, j + 1))
    if i < len(elder):
        ways.append((("lose",), i + 1, j))
    if j < len(copy):
        ways.append((("add", copy[j]), i, j + 1))
    if 0 < j < len(copy) and copy[j] == copy[j - 1]:
        ways.append((("twice",), i, j + 1))
    if swap_writes(elder, copy, i, j):
        ways.append((("swap",), i + 2, j + 2))
    ways.extend([(("skip", k), i + k, j) for k in skip_lengths(elder, i)])
    return ways


def knot_steps(elder, copy, i, j):
    return tuple([way[0] for way in knot_ways(elder, copy, i, j)])


def empty_table(elder, copy):
    return [[None] * (len(copy) + 1) for i in range(len(elder) + 1)]


def table_told(table):
    return tuple([tuple(row) for row in table])


# Every knot can be come to by loses and adds, so that its None is gone when the
# walk is there.
def price_table(elder, copy, prices):
    table = empty_table(elder, copy)
    table[0][0] = 0
    for i in range(len(elder) + 1):
        for j in range(len(copy) + 1):
            for step, done, written in knot_ways(elder, copy, i, j):
                price = table[i][j] + step_price(elder, i, step, prices)
                if table[done][written] is None or price < table[done][written]:
                    table[done][written] = price
    return table_told(table)


def rest_table(elder, copy, prices):
    table = empty_table(elder, copy)
    for i in range(len(elder), -1, -1):
        for j in range(len(copy), -1, -1):
            ways = knot_ways(elder, copy, i, j)
            rests = [step_price(elder, i, step, prices) + table[done][written] for step, done, written in ways]
            # The last knot alone has no step.
            table[i][j] = min(rests, default=0)
    return table_told(table)
