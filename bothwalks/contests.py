"""Contests over pairs of states: a challenger takes an option of one state, an answerer ties it to one of the other.

A challenge and its answer cost the answerer the difference of what both options pay,
and the factor times what the pairs cost to which the plan of the answer leads. The
challenger wants this to be much, the answerer wants it to be little.
"""

from bothwalks.carrying import carried
from bothwalks.challenges import all_challenges, met_options
from bothwalks.halves import folded, halves, unfolded
from bothwalks.moves import place_values
from bothwalks.shares import Share, greatest_index, least_index, total, without_sign


class Contest:
    """What is played for: the spreads and the pays of the options of each state, and the factor.

    Some halves are settled: their numbers hang on no play.
    """

    def __init__(self, spreads, pays, factor, settled):
        self.size = len(spreads)
        self.spreads = spreads
        self.pays = pays
        self.factor = factor
        self.settled = settled
        self.played = [pair for pair in halves(len(spreads)) if pair not in settled]


def outcome(contest, challenges):
    """The numbers of all pairs if both sides do their best, and best challenges of the halves that are played.

    By the challenges to begin with, the play must not be able to go round for ever
    without the factor lessening it. Those that better them are so, too: round a ring
    in which no pair is above another one, none of them was bettered. So each round
    has just one solution; it raises some number and lowers none.
    """
    numbers = answered(contest, challenges, whole_numbers(contest, {pair: Share(0) for pair in contest.played}))
    better = bettered(contest, challenges, numbers)
    while better != challenges:
        challenges = better
        numbers = answered(contest, challenges, numbers)
        better = bettered(contest, challenges, numbers)
    return (numbers, challenges)


def whole_numbers(contest, numbers):
    """The dict from all pairs to their numbers, with those of the halves that are played."""
    known = {pair: contest.settled.get(pair, numbers.get(pair)) for pair in halves(contest.size)}
    return unfolded(contest.size, known, Share(0))


def answered(contest, challenges, numbers):
    """The numbers if the challenges are answered as well as can be, from any numbers on."""
    found = tied(contest, challenges, numbers)
    while found != numbers:
        numbers = found
        found = tied(contest, challenges, numbers)
    return numbers


def tied(contest, challenges, numbers):
    """The numbers by the answers to the challenges that cost the least for the numbers so far."""
    moves = {}
    gains = []
    for pair in contest.played:
        answer, plan = best_answer(contest, pair, challenges[pair], numbers)
        moves[pair] = {to: amount * contest.factor for to, amount in folded(plan).items()}
        at_once = met_gain(contest, pair, met_options(challenges[pair], answer))
        gains.append(at_once + settled_gain(contest, moves[pair]))
    return whole_numbers(contest, place_values(moves, contest.played, gains))


def settled_gain(contest, onward):
    """What is gained by steps to settled halves."""
    return total([share * contest.settled[to] for to, share in onward.items() if to in contest.settled])


def best_answer(contest, pair, challenge, numbers):
    """The option and the plan that answer a challenge of a pair at the least cost."""
    answers = range(len(contest.spreads[pair[1 - challenge[0]]]))
    found = [met_cost(contest, pair, met_options(challenge, answer), numbers) for answer in answers]
    best = least_index([cost for cost, _ in found])
    return (best, found[best][1])


def met_gain(contest, pair, options):
    """The difference of what two options pay that are tied to one another."""
    s, t = pair
    first, second = options
    return without_sign(contest.pays[s][first] - contest.pays[t][second])


def met_cost(contest, pair, options, numbers):
    """The least that two options cost that are tied to one another, and a plan by which they do."""
    s, t = pair
    first, second = options
    cost, plan, _ = carried(contest.spreads[s][first], contest.spreads[t][second], numbers)
    return (met_gain(contest, pair, options) + contest.factor * cost, plan)


def bettered(contest, challenges, numbers):
    """The challenges, with the best one wherever it is worth more than the number."""
    better = {}
    for pair in contest.played:
        worths = challenge_worths(contest, pair, numbers)
        best = list(worths)[greatest_index(list(worths.values()))]
        better[pair] = best if numbers[pair].less(worths[best]) else challenges[pair]
    return better


def challenge_worths(contest, pair, numbers):
    """The dict from all challenges of a pair to the costs of the best answers to them."""
    many = [len(contest.spreads[state]) for state in pair]
    costs = {
        (first, second): met_cost(contest, pair, (first, second), numbers)[0]
        for first in range(many[0]) for second in range(many[1])
    }
    worths = {}
    for challenge in all_challenges(many[0], many[1]):
        found = [costs[met_options(challenge, answer)] for answer in range(many[1 - challenge[0]])]
        worths[challenge] = found[least_index(found)]
    return worths
