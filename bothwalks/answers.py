"""Challenges and answers in duels over a menu, and what they are."""

from bothwalks.carrying import is_plan
from bothwalks.challenges import all_challenges, met_options
from bothwalks.kinds import has_keys, index_pairs, is_index, is_tuple_of


def like_pairs(menu):
    """The pairs of states with the same label, pairs of equal states among them, ascending."""
    return [(s, t) for s, t in index_pairs(menu.size) if menu.label(s) == menu.label(t)]


def unlike_labels(menu):
    """The pairs of states with unlike labels, ascending."""
    return [(s, t) for s, t in index_pairs(menu.size) if menu.label(s) != menu.label(t)]


def pair_challenges(menu, pair):
    """All challenges of a pair, ascending."""
    s, t = pair
    return all_challenges(menu.options(s), menu.options(t))


def all_calls(menu):
    """The keys of answers, ascending: the states, the side and the option of each challenge."""
    return [pair + challenge for pair in like_pairs(menu) for challenge in pair_challenges(menu, pair)]


def is_challenge(menu, pair, thing):
    """Whether a thing is a challenge of a pair."""
    if not is_tuple_of(2, thing) or not is_index(2, thing[0]):
        return False
    return is_index(menu.options(pair[thing[0]]), thing[1])


def answer_options(menu, pair, challenge):
    """How many options may answer a challenge of a pair."""
    return menu.options(pair[1 - challenge[0]])


def met_spreads(menu, pair, challenge, answer):
    """The spreads of the first and of the second walker that come of a challenge and the option that answers it."""
    s, t = pair
    first, second = met_options(challenge, answer)
    return (menu.spread(s, first), menu.spread(t, second))


def is_answer(menu, pair, challenge, thing):
    """Whether a thing is an answer to a challenge of a pair."""
    if not is_tuple_of(2, thing) or not is_index(answer_options(menu, pair, challenge), thing[0]):
        return False
    first, second = met_spreads(menu, pair, challenge, thing[0])
    return is_plan(first, second, thing[1])


def are_challenges(menu, thing):
    """Whether a thing is a dict from just all pairs with the same label to a challenge of each."""
    return has_keys(like_pairs(menu), thing) and all([is_challenge(menu, pair, told) for pair, told in thing.items()])


def are_answers(menu, thing):
    """Whether a thing is a dict from just all challenges of pairs with the same label to an answer to each."""
    if not has_keys(all_calls(menu), thing):
        return False
    return all([is_answer(menu, (s, t), (side, option), told) for (s, t, side, option), told in thing.items()])
