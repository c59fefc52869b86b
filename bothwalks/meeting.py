"""Meeting: the least mean numbers of steps till two walks are at the same state."""

from bothwalks.carrying import carried_inside
from bothwalks.halves import folded, half, halves, unfolded, unfolded_ties
from bothwalks.kinds import check_few, index_pairs
from bothwalks.moves import place_values
from bothwalks.shares import Share
from bothwalks.ties import close_tie

MOST_MEETING = 5


def soonest(chain):
    """The dict from all pairs of states to the least mean number of steps till both meet, or None."""
    check_few(chain.size, MOST_MEETING)
    numbers = means(chain, sure_ties(chain))
    found = means(chain, cheapest_inside(chain, numbers))
    while found != numbers:
        numbers = found
        found = means(chain, cheapest_inside(chain, numbers))
    return numbers


def soonest_ties(chain):
    """Ties by which two walks meet as soon as they can."""
    numbers = soonest(chain)
    ties = cheapest_inside(chain, numbers)
    for s, t in halves(chain.size):
        if (s, t) not in ties:
            ties[(s, t)] = close_tie(chain.row(s), chain.row(t))
    return unfolded_ties(ties)


def never_meet(chain):
    """The ascending list of the pairs of unlike states that no ties surely lead to one state."""
    numbers = soonest(chain)
    return [pair for pair in index_pairs(chain.size) if numbers[pair] is None]


def means(chain, ties):
    """The mean numbers of steps till walks that go by these ties meet, None for pairs without a tie.

    The ties are those of halves; they surely lead to one state, by pairs that have one.
    """
    moves = {pair: folded(tie) for pair, tie in ties.items()}
    values = place_values(moves, list(moves), [1] * len(moves))
    return unfolded(chain.size, {pair: values.get(pair) for pair in halves(chain.size)}, Share(0))


def cheapest_inside(chain, numbers):
    """Ties of the halves with a number that are cheapest for the numbers and lead to such pairs alone."""
    return {
        (s, t): carried_inside(chain.row(s), chain.row(t), numbers)[1]
        for s, t in halves(chain.size) if numbers[(s, t)] is not None
    }


def sure_ties(chain):
    """Ties of the halves from which some ties surely meet, by which they do."""
    inside = halves(chain.size)
    ties = leading_ties(chain, inside)
    while len(ties) < len(inside):
        inside = list(ties)
        ties = leading_ties(chain, inside)
    return ties


def leading_ties(chain, inside):
    """Ties of some of the halves inside: they never lead out, and each may lead to a pair that had one before."""
    ties = {}
    grown = True
    while grown:
        grown = False
        for s, t in inside:
            if (s, t) not in ties:
                costs = {pair: step_cost(pair, inside, ties) for pair in index_pairs(chain.size)}
                cost, tie, _ = carried_inside(chain.row(s), chain.row(t), costs)
                if cost.less(1):
                    ties[(s, t)] = tie
                    grown = True
    return ties


def step_cost(pair, inside, nearer):
    """What a step to a pair costs: 0 if it is met or nearer there, 1 inside, None if it leads out."""
    if pair[0] == pair[1] or half(pair) in nearer:
        return 0
    if half(pair) in inside:
        return 1
    return None
