"""Duels that are played: by given challenges and answers, and step by step."""

from bothwalks.answers import are_answers, are_challenges, is_challenge, like_pairs, unlike_labels
from bothwalks.carrying import copied_plan, picked
from bothwalks.errors import BadDuel, BadSteps, NoChallenge, NothingDone, Over
from bothwalks.kinds import check_two_states, is_between
from bothwalks.moves import behind, hit_share
from bothwalks.shares import Share, share_of, total


def check_duel(menu, challenges, answers, s, t):
    """Raise NoState for what is no state, then BadDuel for what are no challenges or no answers."""
    check_two_states(menu.size, s, t)
    if not are_challenges(menu, challenges):
        raise BadDuel("challenges")
    if not are_answers(menu, answers):
        raise BadDuel("answers")


def duel_moves(menu, challenges, answers):
    """The moves of both walkers over pairs of states; where the labels differ, all is over and they stay."""
    moves = {pair: {pair: Share(1)} for pair in unlike_labels(menu)}
    for pair in like_pairs(menu):
        _, plan = answers[pair + challenges[pair]]
        moves[pair] = {to: share_of(amount) for to, amount in plan.items()}
    return moves


def duel_share(menu, challenges, answers, s, t):
    """The share with which the challenger wins if both go by these challenges and answers."""
    check_duel(menu, challenges, answers, s, t)
    return hit_share(duel_moves(menu, challenges, answers), (s, t), unlike_labels(menu))


def won_within(menu, challenges, answers, s, t, n):
    """The share with which the challenger has won within n steps."""
    check_duel(menu, challenges, answers, s, t)
    if not is_between(0, 12, n):
        raise BadSteps(n)
    shares = behind(duel_moves(menu, challenges, answers), {(s, t): Share(1)}, n)
    return total([shares.get(pair, Share(0)) for pair in unlike_labels(menu)])


class Duel:
    """A duel in which the answerer goes by given answers."""

    def __init__(self, menu, answers, s, t):
        check_two_states(menu.size, s, t)
        if not are_answers(menu, answers):
            raise BadDuel("answers")
        self._menu = menu
        self._plans = {call: copied_plan(plan) for call, (_, plan) in answers.items()}
        self._past = []
        self.steps = 0
        self._stand((s, t))

    def step(self, challenge, share):
        """Do one step by a challenge of the pair and a share, and return the new places."""
        if self.ended:
            raise Over()
        if not is_challenge(self._menu, self.places, challenge):
            raise NoChallenge(challenge)
        to = picked(self._plans[self.places + challenge], share)
        self._past.append(self.places)
        self.steps = self.steps + 1
        return self._stand(to)

    def back(self):
        """Take back the last step that is not taken back yet, and return the places."""
        if not self._past:
            raise NothingDone()
        self.steps = self.steps - 1
        return self._stand(self._past.pop())

    def _stand(self, places):
        """Be at these places."""
        self.places = places
        self.ended = self._menu.label(places[0]) != self._menu.label(places[1])
        return places
