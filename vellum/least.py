"""The cheapest slips from an elder to a copy: the told ones, how many there are, and what all of them keep."""

from vellum.grid import knot_ways, price_table, rest_table
from vellum.slips import step_price

START = (0, 0)


# The ways at a knot by which the rest of a row is as cheap as it can be.
def cheapest_ways(elder, copy, prices, rest, i, j):
    ways = []
    for step, done, written in knot_ways(elder, copy, i, j):
        if step_price(elder, i, step, prices) + rest[done][written] == rest[i][j]:
            ways.append((step, done, written))
    return ways


def first_cheapest(elder, copy, prices):
    rest = rest_table(elder, copy, prices)
    steps = []
    i = 0
    j = 0
    while i < len(elder) or j < len(copy):
        way = cheapest_ways(elder, copy, prices, rest, i, j)[0]
        steps.append(way[0])
        i = way[1]
        j = way[2]
    return tuple(steps)


def least_slips(elder, copy, prices):
    table = price_table(elder, copy, prices)
    return (table[-1][-1], first_cheapest(elder, copy, prices), table)


# The cheapest ways at each knot; the knots stand there rising.
def cheapest_net(elder, copy, prices):
    rest = rest_table(elder, copy, prices)
    net = {}
    for i in range(len(elder) + 1):
        for j in range(len(copy) + 1):
            net[(i, j)] = cheapest_ways(elder, copy, prices, rest, i, j)
    return net


# How many rows of cheapest ways lead from the first knot to each; 0 for one
# that no cheapest row comes to.
def many_to(net):
    many = {START: 1}
    for knot in net:
        here = many.setdefault(knot, 0)
        for step, done, written in net[knot]:
            many[(done, written)] = many.get((done, written), 0) + here
    return many


# How many rows of cheapest ways lead from each knot to the last one.
def many_from(net):
    many = {}
    for knot in reversed(list(net)):
        ways = net[knot]
        # The last knot alone has no way: its rest is one row, the empty one.
        many[knot] = sum([many[(done, written)] for step, done, written in ways]) if len(ways) > 0 else 1
    return many


def cheapest_many(elder, copy, prices):
    return many_from(cheapest_net(elder, copy, prices))[START]


# Every cheapest row keeps at a knot where as many rows go through that keep as
# there are in all.
def sure_pairs(elder, copy, prices):
    net = cheapest_net(elder, copy, prices)
    ahead = many_to(net)
    behind = many_from(net)
    pairs = []
    for knot in net:
        for step, done, written in net[knot]:
            if step == ("keep",) and ahead[knot] * behind[(done, written)] == behind[START]:
                pairs.append(knot)
    return tuple(pairs)
