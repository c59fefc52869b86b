"""Papers that show how soon two walks can meet, and that they cannot sooner."""

from bothwalks.carrying import carried, is_plan, is_prices, plan_cost, worth
from bothwalks.errors import Never
from bothwalks.halves import unfolded_ties
from bothwalks.kinds import check_few, check_two_states, has_keys, index_pairs, is_pair_dict, unlike_pairs
from bothwalks.meeting import MOST_MEETING, cheapest_inside, soonest
from bothwalks.moves import places_ahead
from bothwalks.shares import is_numbered, share_of


def meeting_paper(chain, s, t):
    """A meeting paper with the pair, in which each number is the least mean."""
    check_few(chain.size, MOST_MEETING)
    check_two_states(chain.size, s, t)
    numbers = soonest(chain)
    if s == t or numbers[(s, t)] is None:
        raise Never()
    ties = unfolded_ties(cheapest_inside(chain, numbers))
    met = {(state, state): True for state in range(chain.size)}
    return {pair: (numbers[pair], ties[pair]) for pair in sorted(places_ahead(ties, (s, t), met))}


def is_meeting_paper(chain, thing):
    """Whether a thing is a meeting paper of the chain.

    A number below 0 cannot fit: the least of them all would be above itself.
    """
    if not is_pair_dict(chain.size, thing) or not all([is_numbered(told) for told in thing.values()]):
        return False
    numbers = {(state, state): 0 for state in range(chain.size)}
    if any([pair in numbers for pair in thing]):
        return False
    for pair, told in thing.items():
        numbers[pair] = told[0]
    return all([shows_meeting(chain, numbers, pair, told[1]) for pair, told in thing.items()])


def shows_meeting(chain, numbers, pair, tie):
    """Whether a tie bears out the number of its pair, with the numbers of all pairs of the paper."""
    s, t = pair
    if not is_plan(chain.row(s), chain.row(t), tie) or not all([to in numbers for to in tie]):
        return False
    return not share_of(numbers[pair]).less(plan_cost(numbers, tie) + 1)


def waiting_paper(chain):
    """A waiting paper in which each number is the least mean."""
    numbers = soonest(chain)
    if any([number is None for number in numbers.values()]):
        raise Never()
    paper = {}
    for s, t in index_pairs(chain.size):
        prices = None if s == t else carried(chain.row(s), chain.row(t), numbers)[2]
        paper[(s, t)] = (numbers[(s, t)], prices)
    return paper


def is_waiting_paper(chain, thing):
    """Whether a thing is a waiting paper of the chain."""
    if not has_keys(index_pairs(chain.size), thing) or not all([is_numbered(told) for told in thing.values()]):
        return False
    for state in range(chain.size):
        number, prices = thing[(state, state)]
        if number != 0 or prices is not None:
            return False
    numbers = {pair: told[0] for pair, told in thing.items()}
    return all([shows_waiting(chain, numbers, pair, thing[pair][1]) for pair in unlike_pairs(chain.size)])


def shows_waiting(chain, numbers, pair, prices):
    """Whether prices bear out the number of their pair in a waiting paper."""
    s, t = pair
    if not is_prices(numbers, prices):
        return False
    return not (worth(chain.row(s), chain.row(t), prices) + 1).less(numbers[pair])
