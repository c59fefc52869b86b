"""Carrying a spread to another one: plans, prices, and the cheapest and best of them."""

from math import isqrt

from bothwalks.errors import BadCosts, BadSpread
from bothwalks.kinds import has_keys, index_pairs, is_pair_dict, is_tuple_of
from bothwalks.shares import (
    Share, is_above_zero, is_from_zero, is_share_row, is_spread, pick, share_of, shares_of, total,
)
from bothwalks.tables import common_bottom, scaled
from bothwalks.transport import cheapest_flow


def carry(p, q, costs):
    """The least cost to carry p to q, a plan of this cost and prices of this worth."""
    if not isinstance(p, tuple) or not 1 <= len(p) <= 8 or not is_spread(len(p), p):
        raise BadSpread("p")
    if not is_spread(len(p), q):
        raise BadSpread("q")
    if not has_keys(index_pairs(len(p)), costs) or not all([is_from_zero(cost) for cost in costs.values()]):
        raise BadCosts()
    return carried(shares_of(p), shares_of(q), costs)


def carried(p, q, costs):
    """As carry, for right arguments, the spreads of Shares."""
    indexes = range(len(p))
    froms = [i for i in indexes if p[i] != 0]
    tos = [j for j in indexes if q[j] != 0]
    scale = common_bottom(p + q)
    bottom = common_bottom(shares_of(list(costs.values())))
    whole = [scaled(shares_of([costs[(i, j)] for j in indexes]), bottom) for i in indexes]
    flow, prices = cheapest_flow(
        scaled([p[i] for i in froms], scale),
        scaled([q[j] for j in tos], scale),
        [[whole[i][j] for j in tos] for i in froms],
    )
    plan = {(froms[row], tos[column]): Share(flow[(row, column)], scale) for row, column in sorted(flow)}
    first, second = spread_prices(prices, froms, tos, whole)
    shares = (tuple([Share(u, bottom) for u in first]), tuple([Share(v, bottom) for v in second]))
    return (plan_cost(costs, plan), plan, shares)


def carried_inside(p, q, costs):
    """As carried, but a cost of None bars a pair: the plan does without such pairs if any plan can.

    No amount is less than one over the common bottom; so a bit of what stands for
    None costs more than all else can.
    """
    known = [cost for cost in costs.values() if cost is not None]
    barred = (total(known) + 1) * common_bottom(p + q)
    return carried(p, q, {pair: barred if cost is None else cost for pair, cost in costs.items()})


def spread_prices(prices, froms, tos, costs):
    """The prices of the indexes that carry, and for all others the highest that the costs allow."""
    indexes = range(len(costs))
    first = {froms[row]: price for row, price in prices[0].items()}
    second = {tos[column]: price for column, price in prices[1].items()}
    for j in indexes:
        if j not in second:
            second[j] = min([costs[known][j] - first[known] for known in froms])
    for i in indexes:
        if i not in first:
            first[i] = min([costs[i][known] - second[known] for known in indexes])
    return [first[at] for at in indexes], [second[at] for at in indexes]


def is_plan(p, q, thing):
    """Whether a thing is a plan that carries p to q."""
    many = len(p)
    if not is_pair_dict(many, thing) or not all([is_above_zero(amount) for amount in thing.values()]):
        return False
    given = [total([amount for pair, amount in thing.items() if pair[0] == i]) for i in range(many)]
    taken = [total([amount for pair, amount in thing.items() if pair[1] == j]) for j in range(many)]
    return tuple(given) == tuple(p) and tuple(taken) == tuple(q)


def is_prices(costs, thing):
    """Whether a thing is a pair of tuples of shares that together nowhere are above the costs."""
    many = isqrt(len(costs))
    if not is_tuple_of(2, thing) or not all([is_share_row(many, side) for side in thing]):
        return False
    first, second = thing
    return not any([share_of(cost).less(first[i] + second[j]) for (i, j), cost in costs.items()])


def picked(plan, share):
    """The pair of a plan at which a share is: its pairs, ascending, follow one another as in pick."""
    pairs = sorted(plan)
    return pairs[pick(tuple([plan[pair] for pair in pairs]), share)]


def copied_plan(plan):
    """A copy of a plan with Shares, its pairs ascending."""
    return {pair: share_of(plan[pair]) for pair in sorted(plan)}


def plan_cost(costs, plan):
    """The sum of the amounts of a plan, each times its cost."""
    return total([amount * costs[pair] for pair, amount in plan.items()])


def worth(p, q, prices):
    """What prices are worth for p and q."""
    first, second = prices
    return total([part * price for part, price in zip(p, first)]) + total(
        [part * price for part, price in zip(q, second)]
    )
