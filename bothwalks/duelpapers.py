"""Papers that show what a duel is worth to the challenger: at most, and at least."""

from bothwalks.answers import (
    answer_options, is_answer, is_challenge, like_pairs, met_spreads, pair_challenges, unlike_labels,
)
from bothwalks.carrying import carried, is_prices, plan_cost, worth
from bothwalks.duels import cheapest_answers, duel_distances, dueled, full_challenges
from bothwalks.kinds import check_two_states, has_keys, index_pairs, is_pair_dict, is_tuple_of
from bothwalks.moves import places_ahead
from bothwalks.shares import is_from_zero, is_numbered, share_of


def answer_paper(menu, s, t):
    """An answer paper with the pair, in which each number is the duel distance."""
    check_two_states(menu.size, s, t)
    numbers = duel_distances(menu)
    found = cheapest_answers(menu, numbers)
    told = {pair: None for pair in unlike_labels(menu)}
    ahead = {pair: [] for pair in unlike_labels(menu)}
    for pair in like_pairs(menu):
        told[pair] = {challenge: found[pair + challenge] for challenge in pair_challenges(menu, pair)}
        ahead[pair] = [to for _, plan in told[pair].values() for to in plan]
    return {pair: (numbers[pair], told[pair]) for pair in sorted(places_ahead(ahead, (s, t), ()))}


def is_answer_paper(menu, thing):
    """Whether a thing is an answer paper of the menu."""
    if not is_pair_dict(menu.size, thing) or not all([is_numbered(told) for told in thing.values()]):
        return False
    numbers = {pair: told[0] for pair, told in thing.items()}
    return all([shows_most(menu, numbers, pair, told[1]) for pair, told in thing.items()])


def shows_most(menu, numbers, pair, answers):
    """Whether answers, or None, bear out the number of their pair, with the numbers of all pairs of the paper."""
    s, t = pair
    if answers is None:
        return not share_of(numbers[pair]).less(1)
    if menu.label(s) != menu.label(t) or not has_keys(pair_challenges(menu, pair), answers):
        return False
    if not all([is_answer(menu, pair, challenge, told) for challenge, told in answers.items()]):
        return False
    return all([holds_down(numbers, pair, plan) for _, plan in answers.values()])


def holds_down(numbers, pair, plan):
    """Whether a plan leads to pairs of the paper alone, and costs no more than the number of its pair."""
    return all([to in numbers for to in plan]) and not share_of(numbers[pair]).less(plan_cost(numbers, plan))


def challenge_paper(menu):
    """A challenge paper in which each number is the duel distance."""
    numbers, found = dueled(menu)
    challenges = full_challenges(menu, found)
    paper = {}
    for pair in index_pairs(menu.size):
        if needs_challenge(menu, pair, numbers[pair]):
            challenge = challenges[pair]
            paper[pair] = (numbers[pair], challenge, best_prices(menu, pair, challenge, numbers))
        else:
            paper[pair] = (numbers[pair], None, None)
    return paper


def needs_challenge(menu, pair, number):
    """Whether the number of a pair in a challenge paper is to be shown by a challenge and prices."""
    s, t = pair
    return menu.label(s) == menu.label(t) and number != 0


def best_prices(menu, pair, challenge, numbers):
    """For each option that may answer a challenge, prices of the greatest worth."""
    prices = []
    for answer in range(answer_options(menu, pair, challenge)):
        first, second = met_spreads(menu, pair, challenge, answer)
        prices.append(carried(first, second, numbers)[2])
    return tuple(prices)


def is_challenge_paper(menu, thing):
    """Whether a thing is a challenge paper of the menu."""
    if not has_keys(index_pairs(menu.size), thing) or not all([is_claim(told) for told in thing.values()]):
        return False
    numbers = {pair: told[0] for pair, told in thing.items()}
    if not all([shows_least(menu, numbers, pair, told) for pair, told in thing.items()]):
        return False
    return not hidden(menu, {pair: told[1] for pair, told in thing.items() if told[1] is not None})


def is_claim(thing):
    """Whether a thing is a tuple of a share from 0 to 1 and two other things."""
    return is_tuple_of(3, thing) and is_from_zero(thing[0]) and not share_of(1).less(thing[0])


def shows_least(menu, numbers, pair, told):
    """Whether a challenge and prices, or twice None, bear out the number of their pair."""
    number, challenge, prices = told
    if not needs_challenge(menu, pair, number):
        return challenge is None and prices is None
    if not is_challenge(menu, pair, challenge):
        return False
    many = answer_options(menu, pair, challenge)
    if not is_tuple_of(many, prices) or not all([is_prices(numbers, some) for some in prices]):
        return False
    for answer, some in enumerate(prices):
        first, second = met_spreads(menu, pair, challenge, answer)
        if worth(first, second, some).less(number):
            return False
    return True


def hidden(menu, challenges):
    """The greatest set of pairs that hides from their challenges: what is left when all that must leave it are gone."""
    pairs = list(challenges)
    left = stayers(menu, challenges, pairs)
    while len(left) < len(pairs):
        pairs = left
        left = stayers(menu, challenges, pairs)
    return pairs


def stayers(menu, challenges, pairs):
    """Those of the pairs at which some answer to the challenge leads to such pairs alone."""
    costs = {pair: 0 if pair in pairs else 1 for pair in index_pairs(menu.size)}
    return [pair for pair in pairs if can_stay(menu, pair, challenges[pair], costs)]


def can_stay(menu, pair, challenge, costs):
    """Whether some answer to a challenge costs nothing."""
    for answer in range(answer_options(menu, pair, challenge)):
        first, second = met_spreads(menu, pair, challenge, answer)
        if carried(first, second, costs)[0] == 0:
            return True
    return False
