"""Distances: the least shares with which the labels of two walks differ at some time."""

from bothwalks.carrying import carried
from bothwalks.halves import folded, halves, unfolded, unfolded_ties
from bothwalks.kinds import check_few, check_two_states
from bothwalks.lumps import lumps
from bothwalks.moves import hit_shares
from bothwalks.shares import Share

MOST_NEAR = 6


def distances(chain):
    """The dict from all pairs of states to their distances."""
    check_few(chain.size, MOST_NEAR)
    return least_distances(chain)


def distance(chain, s, t):
    """The distance of two states."""
    check_few(chain.size, MOST_NEAR)
    check_two_states(chain.size, s, t)
    return least_distances(chain)[(s, t)]


def best_ties(chain):
    """Ties by which the labels of no two walks differ with more than their distance."""
    check_few(chain.size, MOST_NEAR)
    return all_ties(chain, least_distances(chain))


def least_distances(chain):
    """The distances, by ties that are bettered till they are cheapest for what they lead to.

    What is left then is as cheap to carry as it is, and 0 for pairs of one lump; only the
    distances are so. Each round lowers some number, and there are but so many cheapest ties.
    """
    numbers = lump_numbers(chain)
    found = bettered(chain, numbers)
    while found != numbers:
        numbers = found
        found = bettered(chain, numbers)
    return numbers


def lump_numbers(chain):
    """The dict from all pairs of states to 0 for those of one lump, otherwise 1."""
    lump = {state: part for part in lumps(chain) for state in part}
    far = {(s, t): Share(0) if lump[s] == lump[t] else Share(1) for s, t in halves(chain.size)}
    return unfolded(chain.size, far, Share(0))


def bettered(chain, numbers):
    """The shares with which labels differ at some time by the ties that are cheapest for the numbers.

    The number of a pair is 0 just if it is of one lump: walks from there need never differ.
    """
    pairs = halves(chain.size)
    unlike = [(s, t) for s, t in pairs if chain.label(s) != chain.label(t)]
    wavering = [pair for pair in pairs if numbers[pair] != 0 and pair not in unlike]
    ties = cheapest_ties(chain, numbers, wavering)
    shares = hit_shares({pair: folded(tie) for pair, tie in ties.items()}, unlike)
    return unfolded(chain.size, {pair: shares.get(pair, numbers[pair]) for pair in pairs}, Share(0))


def all_ties(chain, costs):
    """Ties of all pairs of unlike states that are cheapest for the costs."""
    return unfolded_ties(cheapest_ties(chain, costs, halves(chain.size)))


def cheapest_ties(chain, costs, pairs):
    """Ties of these pairs of states that are cheapest for the costs."""
    return {(s, t): carried(chain.row(s), chain.row(t), costs)[1] for s, t in pairs}
