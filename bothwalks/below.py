"""Walking below: pairs of states from which one walk can stay below another one for ever."""

from bothwalks.carrying import carried, is_plan
from bothwalks.errors import Unlike
from bothwalks.kinds import in_order, index_pairs, is_count, is_index_set, is_pair_dict, is_tuple_of
from bothwalks.orders import heavier_up, up_sets
from bothwalks.shares import share_into


def check_sizes(order, one, other):
    """Raise Unlike for an order and two chains of unlike sizes."""
    if one.size != order.size or other.size != order.size:
        raise Unlike()


def kept_below(order, one, other):
    """The ascending list of the pairs from which a walk of one can stay below one of the other."""
    check_sizes(order, one, other)
    return kept_pairs(order, fallen_pairs(order, one, other))


def kept_pairs(order, fallen):
    """The pairs of states that have not fallen, ascending."""
    return [pair for pair in index_pairs(order.size) if pair not in fallen]


def below_ties(order, one, other):
    """The dict from the pairs that are kept to plans that lead to such pairs alone."""
    check_sizes(order, one, other)
    fallen = fallen_pairs(order, one, other)
    costs = fall_costs(order.size, fallen)
    return {(s, t): carried(one.row(s), other.row(t), costs)[1] for s, t in kept_pairs(order, fallen)}


def fall_costs(size, fallen):
    """The dict from all pairs of states to 1 for those that have fallen, otherwise 0."""
    return {pair: 1 if pair in fallen else 0 for pair in index_pairs(size)}


def fallen_pairs(order, one, other):
    """The fall paper of all pairs that are not kept, in rounds: what falls in one counts from the next on."""
    fallen = {(s, t): (0, ()) for s, t in index_pairs(order.size) if not order.below(s, t)}
    rank = 1
    falling = falling_pairs(order, one, other, fallen, rank)
    while falling:
        for pair, told in falling.items():
            fallen[pair] = told
        rank = rank + 1
        falling = falling_pairs(order, one, other, fallen, rank)
    return fallen


def falling_pairs(order, one, other, fallen, rank):
    """What a fall paper tells, with this rank, of the pairs without a plan that keeps off the fallen ones."""
    costs = fall_costs(order.size, fallen)
    falling = {}
    for s, t in kept_pairs(order, fallen):
        cost, _, prices = carried(one.row(s), other.row(t), costs)
        if cost != 0:
            falling[(s, t)] = (rank, heavier_states(one.row(s), other.row(t), prices[0], fallen))
    return falling


def heavier_states(p, q, prices, fallen):
    """States into which p has more than q has into all that they can be carried to.

    The prices are worth more than 0, and what is not fallen costs 0. Set by set, from
    the highest price on, they weigh p against q; so one of these sets shows it.
    """
    sets = [tuple([state for state, own in enumerate(prices) if not own.less(price)]) for price in prices]
    return [states for states in sets if is_heavier(p, q, states, fallen)][0]


def is_heavier(p, q, states, fallen):
    """Whether p has a greater share into the states than q into what is not fallen for one of them."""
    left = [u for u in range(len(q)) if any([(a, u) not in fallen for a in states])]
    return share_into(q, left).less(share_into(p, states))


def is_below_ties(order, one, other, thing):
    """Whether a thing is a dict from pairs, each of the first below the second, to plans into such pairs."""
    if not is_pair_dict(order.size, thing) or not all([order.below(s, t) for s, t in thing]):
        return False
    if not all([is_plan(one.row(s), other.row(t), plan) for (s, t), plan in thing.items()]):
        return False
    return all([to in thing for plan in thing.values() for to in plan])


def fall_paper(order, one, other):
    """A fall paper of just the pairs that are not kept."""
    check_sizes(order, one, other)
    return in_order(fallen_pairs(order, one, other))


def is_fall_paper(order, one, other, thing):
    """Whether a thing is a fall paper of the order and both chains."""
    if not is_pair_dict(order.size, thing) or not all([is_ranked(order.size, told) for told in thing.values()]):
        return False
    return all([falls(order, one, other, thing, pair) for pair in thing])


def is_ranked(size, thing):
    """Whether a thing is a pair of an integer from 0 on and an ascending tuple of states."""
    return is_tuple_of(2, thing) and is_count(thing[0]) and is_index_set(size, thing[1])


def falls(order, one, other, paper, pair):
    """Whether a paper shows of one of its pairs, out of those with a rank below, that it falls."""
    s, t = pair
    rank, states = paper[pair]
    if rank == 0:
        return states == () and not order.below(s, t)
    earlier = {place: True for place, told in paper.items() if told[0] < rank}
    return is_heavier(one.row(s), other.row(t), states, earlier)


def rising(chain, order):
    """The least pair of states and the least up set into which the lower one goes with more; None if there is none."""
    if chain.size != order.size:
        raise Unlike()
    ups = up_sets(order)
    for s, t in order.pairs():
        states = heavier_up(ups, chain.row(s), chain.row(t))
        if states is not None:
            return (s, t, states)
    return None
