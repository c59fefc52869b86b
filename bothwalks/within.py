"""Meeting within so many steps."""

from bothwalks.carrying import carried
from bothwalks.errors import BadSteps
from bothwalks.halves import halves, unfolded
from bothwalks.kinds import check_few, check_two_states, is_between
from bothwalks.meeting import MOST_MEETING
from bothwalks.shares import Share


def met_within(chain, s, t, n):
    """The greatest share with which two walks have met within n steps."""
    check_few(chain.size, MOST_MEETING)
    check_two_states(chain.size, s, t)
    if not is_between(0, 5, n):
        raise BadSteps(n)
    apart_still = unfolded(chain.size, {pair: Share(1) for pair in halves(chain.size)}, Share(0))
    for _ in range(n):
        apart_still = a_step_more(chain, apart_still)
    return Share(1) - apart_still[(s, t)]


def a_step_more(chain, apart_still):
    """The least shares with which walks have not met, with one more step than those that are told."""
    shares = {(s, t): carried(chain.row(s), chain.row(t), apart_still)[0] for s, t in halves(chain.size)}
    return unfolded(chain.size, shares, Share(0))
