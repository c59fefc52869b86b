"""Bounds of worths: how far the greatest worths of two states can be apart, by walking both."""

from bothwalks.contests import Contest, outcome
from bothwalks.halves import halves
from bothwalks.kinds import check_few

MOST_BOUND = 4


def worth_bounds(choices):
    """The dict from all pairs of states to the bounds of how far their greatest worths are apart."""
    check_few(choices.size, MOST_BOUND)
    spreads = [[choices.row(state, name) for name in choices.names(state)] for state in range(choices.size)]
    pays = [[choices.pay(state, name) for name in choices.names(state)] for state in range(choices.size)]
    contest = Contest(spreads, pays, choices.factor, {})
    return outcome(contest, {pair: (0, 0) for pair in halves(choices.size)})[0]
