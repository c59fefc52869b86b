"""Papers that show that states are near, or far."""

from bothwalks.carrying import carried, is_plan, is_prices, plan_cost, worth
from bothwalks.kinds import check_few, check_two_states, has_keys, index_pairs, is_pair_dict
from bothwalks.lumps import lumps
from bothwalks.moves import places_ahead
from bothwalks.near import MOST_NEAR, all_ties, distances
from bothwalks.shares import is_numbered, share_of


def near_paper(chain, s, t):
    """A near paper with the pair, in which each number is the distance."""
    check_few(chain.size, MOST_NEAR)
    check_two_states(chain.size, s, t)
    numbers = distances(chain)
    ties = shown_ties(chain, numbers)
    pairs = places_ahead({pair: tie or () for pair, tie in ties.items()}, (s, t), ())
    return {pair: (numbers[pair], ties[pair]) for pair in sorted(pairs)}


def shown_ties(chain, numbers):
    """For all pairs of states a best tie, also where both are equal; None where the labels differ."""
    best = all_ties(chain, numbers)
    ties = {}
    for s, t in index_pairs(chain.size):
        if chain.label(s) != chain.label(t):
            ties[(s, t)] = None
        elif s == t:
            ties[(s, t)] = {(to, to): share for to, share in enumerate(chain.row(s)) if share != 0}
        else:
            ties[(s, t)] = best[(s, t)]
    return ties


def is_near_paper(chain, thing):
    """Whether a thing is a near paper of the chain."""
    if not is_pair_dict(chain.size, thing) or not all([is_numbered(told) for told in thing.values()]):
        return False
    numbers = {pair: told[0] for pair, told in thing.items()}
    return all([shows_near(chain, numbers, pair, told[1]) for pair, told in thing.items()])


def shows_near(chain, numbers, pair, tie):
    """Whether a tie, or None, bears out the number of its pair, with the numbers of all pairs of the paper."""
    s, t = pair
    if tie is None:
        return not share_of(numbers[pair]).less(1)
    if chain.label(s) != chain.label(t) or not is_plan(chain.row(s), chain.row(t), tie):
        return False
    return all([to in numbers for to in tie]) and not share_of(numbers[pair]).less(plan_cost(numbers, tie))


def far_paper(chain):
    """A far paper in which each number is the distance."""
    numbers = distances(chain)
    paper = {}
    for s, t in index_pairs(chain.size):
        number = numbers[(s, t)]
        if needs_prices(chain, s, t, number):
            paper[(s, t)] = (number, carried(chain.row(s), chain.row(t), numbers)[2])
        else:
            paper[(s, t)] = (number, None)
    return paper


def needs_prices(chain, s, t, number):
    """Whether the number of a pair in a far paper is to be shown by prices."""
    return chain.label(s) == chain.label(t) and number != 0


def is_far_paper(chain, thing):
    """Whether a thing is a far paper of the chain."""
    if not has_keys(index_pairs(chain.size), thing) or not all([is_numbered(told) for told in thing.values()]):
        return False
    numbers = {pair: told[0] for pair, told in thing.items()}
    if any([share_of(1).less(number) for number in numbers.values()]):
        return False
    if any([numbers[(s, t)] != 0 for part in lumps(chain) for s in part for t in part]):
        return False
    return all([shows_far(chain, numbers, pair, told[1]) for pair, told in thing.items()])


def shows_far(chain, numbers, pair, prices):
    """Whether prices, or None, bear out the number of their pair in a far paper."""
    s, t = pair
    if not needs_prices(chain, s, t, numbers[pair]):
        return prices is None
    return is_prices(numbers, prices) and not worth(chain.row(s), chain.row(t), prices).less(numbers[pair])
