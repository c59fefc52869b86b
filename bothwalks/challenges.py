"""Challenges of pairs of states whose states have options, and the options that may answer them.

A challenge is a pair (side, option): side 0 with an option of the first state, side 1
with one of the second state. It is answered by an option of the other state.
"""


def all_challenges(first, second):
    """The challenges of a pair of states with so many options each, ascending."""
    return [(0, option) for option in range(first)] + [(1, option) for option in range(second)]


def met_options(challenge, answer):
    """The options of the first and of the second state that come of a challenge and an answer."""
    side, option = challenge
    if side == 0:
        return (option, answer)
    return (answer, option)


def turned_challenge(challenge):
    """The challenge for the pair the other way about."""
    return (1 - challenge[0], challenge[1])
