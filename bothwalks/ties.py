"""Ties of two walks, and what they do."""

from bothwalks.carrying import is_plan
from bothwalks.chains import chain_moves
from bothwalks.errors import BadSteps, BadTies
from bothwalks.kinds import check_two_states, has_keys, index_pairs, is_between, unlike_pairs
from bothwalks.moves import behind, hit_mean, hit_share
from bothwalks.shares import Share, share_of, total


def is_ties(chain, thing):
    """Whether a thing is a dict from just all pairs of unlike states to a tie of each."""
    if not has_keys(unlike_pairs(chain.size), thing):
        return False
    return all([is_plan(chain.row(s), chain.row(t), tie) for (s, t), tie in thing.items()])


def free_ties(chain):
    """The ties by which no step hangs on the other one."""
    return {(s, t): free_tie(chain.row(s), chain.row(t)) for s, t in unlike_pairs(chain.size)}


def free_tie(p, q):
    """The plan whose amounts are the products of the shares."""
    return without_zeros({(i, j): p[i] * q[j] for i, j in index_pairs(len(p))})


def without_zeros(amounts):
    """A dict of amounts without those that are 0."""
    return {pair: amount for pair, amount in amounts.items() if amount != 0}


def close_ties(chain):
    """The ties by which as much as possible goes to the same state."""
    return {(s, t): close_tie(chain.row(s), chain.row(t)) for s, t in unlike_pairs(chain.size)}


def close_tie(p, q):
    """The plan that leaves the lesser of both shares where it is and ties what is left not at all."""
    both = [one if one.less(other) else other for one, other in zip(p, q)]
    left = Share(1) - total(both)
    amounts = {(i, j): both[i] if i == j else Share(0) for i, j in index_pairs(len(p))}
    if left != 0:
        for i, j in index_pairs(len(p)):
            amounts[(i, j)] = amounts[(i, j)] + ((p[i] - both[i]) * (q[j] - both[j])).over(left)
    return without_zeros(amounts)


def tied_moves(chain, ties):
    """The moves of both walks over pairs of states; at the same state they go on together."""
    single = chain_moves(chain)
    moves = {}
    for s, t in index_pairs(chain.size):
        if s == t:
            moves[(s, t)] = {(to, to): share for to, share in single[s].items()}
        else:
            moves[(s, t)] = {pair: share_of(amount) for pair, amount in ties[(s, t)].items()}
    return moves


def check_tied(chain, ties, s, t):
    """Raise NoState for what is no state, then BadTies for what are no ties."""
    check_two_states(chain.size, s, t)
    if not is_ties(chain, ties):
        raise BadTies()


def tied_after(chain, ties, s, t, n):
    """The dict from the pairs at which both walks may be behind n steps to their shares."""
    check_tied(chain, ties, s, t)
    if not is_between(0, 30, n):
        raise BadSteps(n)
    return behind(tied_moves(chain, ties), {(s, t): Share(1)}, n)


def tied_mean(chain, ties, s, t):
    """The mean number of steps till both walks are at the same state; None if this is not sure."""
    check_tied(chain, ties, s, t)
    return hit_mean(tied_moves(chain, ties), (s, t), [(state, state) for state in range(chain.size)])


def tied_differ(chain, ties, s, t):
    """The share with which the labels of both walks differ at some time."""
    check_tied(chain, ties, s, t)
    unlike = [(i, j) for i, j in index_pairs(chain.size) if chain.label(i) != chain.label(j)]
    return hit_share(tied_moves(chain, ties), (s, t), unlike)
