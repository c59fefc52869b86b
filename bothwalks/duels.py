"""Duel distances, and how both sides of a duel do their best."""

from bothwalks.answers import all_calls, like_pairs
from bothwalks.challenges import turned_challenge
from bothwalks.contests import Contest, best_answer, outcome
from bothwalks.halves import halves
from bothwalks.kinds import check_two_states, in_order
from bothwalks.menulumps import menu_rounds, option_shares
from bothwalks.menus import state_spreads
from bothwalks.shares import Share


def duel_distances(menu):
    """The dict from all pairs of states to their duel distances."""
    return dueled(menu)[0]


def duel_distance(menu, s, t):
    """The duel distance of two states."""
    check_two_states(menu.size, s, t)
    return duel_distances(menu)[(s, t)]


def best_challenges(menu):
    """Challenges by which the challenger wins with at least the duel distance."""
    return full_challenges(menu, dueled(menu)[1])


def best_answers(menu):
    """Answers by which the challenger wins with at most the duel distance."""
    return cheapest_answers(menu, duel_distances(menu))


def dueled(menu):
    """The duel distances, and best challenges of those halves that are neither unlike nor of one lump."""
    found = menu_rounds(menu)
    settled = {}
    challenges = {}
    for s, t in halves(menu.size):
        parted = rounds_together(found, s, t)
        if parted == 0:
            settled[(s, t)] = Share(1)
        elif parted == len(found):
            settled[(s, t)] = Share(0)
        else:
            challenges[(s, t)] = telling_challenge(menu, (s, t), found[parted - 1])
    return outcome(menu_contest(menu, settled), challenges)


def menu_contest(menu, settled):
    """The contest over a menu, in which no option pays: all that counts is what is settled."""
    spreads = [state_spreads(menu, state) for state in range(menu.size)]
    return Contest(spreads, [[Share(0)] * len(options) for options in spreads], Share(1), settled)


def rounds_together(found, s, t):
    """In how many of the partitions, of which each is cut into the next, two states are of one part."""
    return len([parts for parts in found if any([s in part and t in part for part in parts])])


def telling_challenge(menu, pair, parts):
    """A challenge with an option that shares out to the parts what no option of the other state does.

    However it is answered, both may come to unlike parts: to a pair that is told apart
    by fewer rounds, and in the end to one with unlike labels. So no pairs hide from it.
    """
    first, second = [option_shares(menu, state, parts) for state in pair]
    told = [(0, option) for option, shares in enumerate(first) if shares not in second]
    return (told + [(1, option) for option, shares in enumerate(second) if shares not in first])[0]


def full_challenges(menu, challenges):
    """Challenges of all pairs with the same label, out of those of some halves; the others hold nothing to win."""
    full = {pair: (0, 0) for pair in like_pairs(menu)}
    for s, t in challenges:
        full[(s, t)] = challenges[(s, t)]
        full[(t, s)] = turned_challenge(challenges[(s, t)])
    return in_order(full)


def cheapest_answers(menu, numbers):
    """The answers to all challenges that cost the least for the numbers."""
    contest = menu_contest(menu, {})
    answers = {}
    for s, t, side, option in all_calls(menu):
        answers[(s, t, side, option)] = best_answer(contest, (s, t), (side, option), numbers)
    return answers
