"""[22.3] and [24.1]: duels by given challenges and answers, and step by step."""

import copy
import unittest
from fractions import Fraction

from bothwalks.duelling import Duel, duel_share, won_within
from bothwalks.duels import best_answers, best_challenges
from bothwalks.errors import BadDuel, BadFactor, BadSteps, NoChallenge, NoState, NothingDone, Over
from bothwalks.menus import Menu, single
from bothwalks.ties import close_ties, tied_differ
from tests.helpers import (
    Case, S, all_pairs, challenges_of, drawn_chain, drawn_menu, fraction, h, like_pairs, odd_objects, some_answers,
    some_challenges, source,
)
from tests.test_duels import AGAIN, DUELS, MENU, PUTS_OFF, SAME, SURE, drawn

LITTLE = S(1, 10 ** 12)
# 0 may go to 0, 1 and 2, or stay; 1 stays or goes to 2 with a third.
FORK = Menu((
    ((S(1, 4), h, S(1, 4)), (1, 0, 0)), ((0, 1, 0), (0, S(2, 3), S(1, 3))), ((0, 0, 1),),
), ("a", "a", "b"))
WRONG = [0 - LITTLE, -1, 1, S(1), 1 + LITTLE, S(3, 2), True, False]


def fork_answers():
    """Answers for FORK; those to the challenges of (0, 1) are made by hand."""
    answers = best_answers(FORK)
    answers[(0, 1, 0, 0)] = (1, {(2, 1): S(1, 4), (1, 1): S(1, 6), (0, 1): S(1, 4), (1, 2): S(1, 3)})
    answers[(0, 1, 0, 1)] = (0, {(0, 1): 1})
    answers[(0, 1, 1, 0)] = (1, {(0, 1): 1})
    answers[(0, 1, 1, 1)] = (1, {(0, 2): S(1, 3), (0, 1): S(2, 3)})
    return answers


def odd_shares():
    """Objects that are no share from 0 to below 1."""
    return [thing for thing in odd_objects() if not (isinstance(thing, S) and thing == h)] + WRONG


def followed(menu, challenges, answers, s, t, steps):
    """The share with which the challenger wins within so many steps, way by way."""
    if menu.label(s) != menu.label(t):
        return Fraction(1)
    if steps == 0:
        return Fraction(0)
    _, plan = answers[(s, t) + challenges[(s, t)]]
    return sum(fraction(amount) * followed(menu, challenges, answers, i, j, steps - 1)
               for (i, j), amount in plan.items())


def float_share(menu, challenges, answers, steps):
    """The shares with which the challenger wins within many steps, nearly."""
    moves = {
        pair: [(to, float(fraction(amount))) for to, amount in answers[pair + challenges[pair]][1].items()]
        for pair in like_pairs(menu)
    }
    known = {pair: 0.0 if pair in moves else 1.0 for pair in all_pairs(menu)}
    for _ in range(steps):
        known = {pair: sum(part * known[to] for to, part in moves[pair]) if pair in moves else 1.0 for pair in known}
    return known


def wrong_challenges(menu, right):
    """Challenges with one thing changed."""
    pair, other = list(right)[0], list(right)[-1]
    s, t = pair
    found = [{key: told for key, told in right.items() if key != other}, {}]
    unlike = [key for key in all_pairs(menu) if key not in right]
    found += [{**right, key: (0, 0)} for key in unlike + [(0, menu.size), (-1, 0), (0,), 0, "ab", (0, 0, 0)]]
    for told in (
        None, (0,), (0, 0, 0), [0, 0], (2, 0), (-1, 0), (0, -1), (0, menu.options(s)), (1, menu.options(t)),
        (False, 0), (0, False), (1, True), "00", (0, None), (S(0), 0),
    ):
        found.append({**right, pair: told})
    flagged = {(False if at == 0 else at, to): told for (at, to), told in right.items()}
    turned = {(at, True if to == 1 else to): told for (at, to), told in right.items()}
    return found + [flagged, turned, list(right.items()), tuple(right)]


def wrong_answers(menu, right):
    """Answers with one thing changed."""
    key, last = list(right)[0], list(right)[-1]
    option, plan = right[key]
    place, amount = list(plan.items())[0]
    found = [{call: told for call, told in right.items() if call != last}, {}, list(right.items())]
    for call in ((0, 0, 2, 0), (0, 0, 0, 3), (0, menu.size, 0, 0), (0, 0), key[:3], key + (0,), 0, "abcd", None):
        found.append({**right, call: right[key]})
    s, t = [pair for pair in all_pairs(menu) if pair not in like_pairs(menu)][0]
    found.append({**right, (s, t, 0, 0): right[key]})
    for told in (
        None, option, plan, (option,), (option, plan, 0), [option, plan], (3, plan), (-1, plan), (False, plan),
        (True, plan), (S(option), plan), (option, None), (option, {}), (option, list(plan.items())),
        (option, {**plan, place: amount + LITTLE}), (option, {**plan, place: amount - LITTLE}),
        (option, {**plan, (0, menu.size): LITTLE}), (option, {**plan, (place[0], True): 0}),
        (option, {to: part for to, part in plan.items() if to != place}), (option, {(0, 0, 0): 1}),
    ):
        found.append({**right, key: told})
    flagged = {(False if s == 0 else s,) + tuple(rest): told for (s, *rest), told in right.items()}
    sided = {(s, t, bool(side), option): told for (s, t, side, option), told in right.items()}
    named = {(s, t, side, bool(at) if at < 2 else at): told for (s, t, side, at), told in right.items()}
    return found + [flagged, sided, named]


class DuelShareTest(Case):

    def test_duel_share(self):
        for menu, distance in ((MENU, h), (PUTS_OFF, S(1, 3)), (SURE, 1), (AGAIN, 1), (SAME, 0)):
            challenges, answers = best_challenges(menu), best_answers(menu)
            self.assertEqual(duel_share(menu, challenges, answers, 0, 1), distance)
            self.assertEqual(duel_share(menu, challenges, answers, 0, 2), 1)
            self.assertEqual(duel_share(menu, challenges, answers, 1, 1), 0)
            self.is_share(duel_share(menu, challenges, answers, 0, 2))
        lone = Menu((((1,),),), ("a",))
        self.assertEqual(duel_share(lone, best_challenges(lone), best_answers(lone), 0, 0), 0)

    def test_challenges_that_put_off(self):
        for menu in (PUTS_OFF, SURE, AGAIN):
            challenges = {**best_challenges(menu), (0, 1): (0, 0)}
            self.assertEqual(duel_share(menu, challenges, best_answers(menu), 0, 1), 0)

    def test_equal_states_go_on_like_others(self):
        # The answerer does not do what the challenger names: so both come apart from (0, 0).
        answers = best_answers(SURE)
        answers[(0, 0, 0, 1)] = (0, {(2, 0): 1})
        challenges = {**best_challenges(SURE), (0, 0): (0, 1)}
        self.assertEqual(duel_share(SURE, challenges, answers, 0, 0), 1)
        self.assertEqual(won_within(SURE, challenges, answers, 0, 0, 0), 0)
        self.assertEqual(won_within(SURE, challenges, answers, 0, 0, 1), 1)
        challenges[(0, 0)] = (1, 1)
        self.assertEqual(duel_share(SURE, challenges, answers, 0, 0), 0)

    def test_the_side_counts(self):
        answers = fork_answers()
        for challenge, share in (((0, 0), S(1, 4) + S(1, 3)), ((0, 1), 0), ((1, 0), 0), ((1, 1), S(1, 3))):
            challenges = {**best_challenges(FORK), (0, 1): challenge}
            self.assertEqual(won_within(FORK, challenges, answers, 0, 1, 1), share)

    def test_drawn_duels(self):
        draw = source(261)
        between = 0
        for menu in list(drawn(262, 25)) + DUELS + [FORK]:
            challenges, answers = some_challenges(draw, menu), some_answers(draw, menu)
            nearly = float_share(menu, challenges, answers, 300)
            found = {(s, t): duel_share(menu, challenges, answers, s, t) for s, t in all_pairs(menu)}
            for pair, share in found.items():
                self.is_share(share)
                self.assertLess(abs(float(fraction(share)) - nearly[pair]), 1e-4)
                between += 0 < fraction(share) < 1
                if pair in like_pairs(menu):
                    _, plan = answers[pair + challenges[pair]]
                    self.assertEqual(share, sum([found[to] * amount for to, amount in plan.items()], S(0)))
        self.assertGreater(between, 15)

    def test_for_chains_they_are_what_the_ties_do(self):
        draw = source(263)
        for _ in range(15):
            chain = drawn_chain(draw, draw.randint(2, 4), "aab")
            menu, ties = single(chain), close_ties(chain)
            answers = {}
            for s, t in like_pairs(menu):
                plan = {(to, to): share for to, share in enumerate(chain.row(s)) if share != 0}
                for challenge in challenges_of(menu, s, t):
                    answers[(s, t) + challenge] = (0, plan if s == t else ties[(s, t)])
            for s, t in all_pairs(menu):
                share = duel_share(menu, some_challenges(draw, menu), answers, s, t)
                self.assertEqual(share, tied_differ(chain, ties, s, t))

    def test_errors_in_turn(self):
        challenges, answers = best_challenges(MENU), best_answers(MENU)
        for call, more in ((duel_share, ()), (won_within, (3,))):
            for thing in odd_objects() + [3, -1, S(0)]:
                self.refuses(NoState, {"state": thing}, call, MENU, challenges, answers, thing, 0, *more)
                self.refuses(NoState, {"state": thing}, call, MENU, challenges, answers, 0, thing, *more)
                self.refuses(NoState, {"state": thing}, call, MENU, None, None, thing, 9, *more)
                self.refuses(NoState, {"state": thing}, call, MENU, {}, answers, 2, thing, *more)
            for thing in odd_objects() + wrong_challenges(MENU, challenges):
                self.refuses(BadDuel, {"part": "challenges"}, call, MENU, thing, answers, 0, 1, *more)
                self.refuses(BadDuel, {"part": "challenges"}, call, MENU, thing, None, 2, 2, *more)
            for thing in odd_objects() + wrong_answers(MENU, answers):
                self.refuses(BadDuel, {"part": "answers"}, call, MENU, challenges, thing, 0, 1, *more)
                self.refuses(BadDuel, {"part": "answers"}, call, MENU, challenges, thing, 0, 2, *more)
        for thing in odd_objects() + [S(1), "3", -1, 13]:
            self.refuses(BadSteps, {"steps": thing}, won_within, MENU, challenges, answers, 0, 1, thing)
            self.refuses(BadSteps, {"steps": thing}, won_within, MENU, challenges, answers, 0, 2, thing)
            self.refuses(BadDuel, {"part": "answers"}, won_within, MENU, challenges, {}, 0, 1, thing)
            self.refuses(BadDuel, {"part": "challenges"}, won_within, MENU, {}, answers, 0, 1, thing)
            self.refuses(NoState, {"state": 5}, won_within, MENU, challenges, answers, 0, 5, thing)

    def test_each_part_of_a_key_and_of_an_answer(self):
        for menu in (FORK, SAME):
            challenges, answers = best_challenges(menu), best_answers(menu)
            for pair in challenges:
                for side in (0, 1):
                    over = menu.options(pair[side])
                    wrong = {**challenges, pair: (side, over)}
                    self.refuses(BadDuel, {"part": "challenges"}, duel_share, menu, wrong, answers, 0, 1)
                    right = {**challenges, pair: (side, over - 1)}
                    self.is_share(duel_share(menu, right, answers, 0, 1))
            for s, t, side, option in answers:
                over = menu.options(s if side else t)
                told = answers[(s, t, side, option)]
                for wrong in ((over, told[1]), (told[0], {(0, 0): S(1, 3), (1, 1): S(2, 3)}), (told[0],)):
                    wrong = {**answers, (s, t, side, option): wrong}
                    self.refuses(BadDuel, {"part": "answers"}, duel_share, menu, challenges, wrong, 0, 1)
                fewer = {call: told for call, told in answers.items() if call != (s, t, side, option)}
                self.refuses(BadDuel, {"part": "answers"}, duel_share, menu, challenges, fewer, 0, 1)


class WonWithinTest(Case):

    def test_won_within(self):
        challenges, answers = best_challenges(AGAIN), best_answers(AGAIN)
        left = S(1)
        for steps in range(13):
            self.assertEqual(won_within(AGAIN, challenges, answers, 0, 1, steps), 1 - left)
            self.assertEqual(won_within(AGAIN, challenges, answers, 0, 2, steps), 1)
            self.assertEqual(won_within(AGAIN, challenges, answers, 1, 1, steps), 0)
            left = left * S(3, 4)
        self.is_share(won_within(AGAIN, challenges, answers, 1, 1, 0))
        self.is_share(won_within(AGAIN, challenges, answers, 2, 0, 0))

    def test_way_by_way(self):
        draw = source(264)
        for menu in list(drawn(265, 12)) + DUELS + [FORK]:
            challenges, answers = some_challenges(draw, menu), some_answers(draw, menu)
            for s, t in all_pairs(menu):
                most = duel_share(menu, challenges, answers, s, t)
                before = S(0)
                for steps in range(13):
                    share = won_within(menu, challenges, answers, s, t, steps)
                    self.is_share(share)
                    if steps < 4:
                        self.assertEqual(fraction(share), followed(menu, challenges, answers, s, t, steps))
                    self.assertFalse(share.less(before))
                    self.assertFalse(most.less(share))
                    before = share


class DuelTest(Case):

    def stands(self, duel, places, steps, ended):
        self.assertEqual((duel.places, duel.steps), (places, steps))
        self.assertIs(type(duel.places), tuple)
        self.assertIs(duel.ended, ended)

    def test_a_new_duel(self):
        duel = Duel(FORK, fork_answers(), 0, 1)
        self.stands(duel, (0, 1), 0, False)
        self.assertLessEqual({"places", "steps", "ended"}, set(vars(duel)))
        self.stands(Duel(FORK, fork_answers(), 0, 0), (0, 0), 0, False)
        self.stands(Duel(FORK, fork_answers(), 2, 1), (2, 1), 0, True)

    def test_errors_in_turn(self):
        answers = best_answers(MENU)
        for thing in odd_objects() + [3, -1, S(0)]:
            self.refuses(NoState, {"state": thing}, Duel, MENU, answers, thing, 0)
            self.refuses(NoState, {"state": thing}, Duel, MENU, answers, 0, thing)
            self.refuses(NoState, {"state": thing}, Duel, MENU, None, thing, 9)
            self.refuses(NoState, {"state": thing}, Duel, MENU, {}, 1, thing)
        for thing in odd_objects() + wrong_answers(MENU, answers):
            self.refuses(BadDuel, {"part": "answers"}, Duel, MENU, thing, 0, 1)
            self.refuses(BadDuel, {"part": "answers"}, Duel, MENU, thing, 0, 2)

    def test_steps_by_shares_about_a_sum(self):
        for share, to in (
            (0, (0, 1)), (S(1, 4) - LITTLE, (0, 1)), (S(1, 4), (1, 1)), (S(1, 4) + LITTLE, (1, 1)),
            (S(5, 12) - LITTLE, (1, 1)), (S(5, 12), (1, 2)), (S(3, 4) - LITTLE, (1, 2)), (S(3, 4), (2, 1)),
            (1 - LITTLE, (2, 1)),
        ):
            duel = Duel(FORK, fork_answers(), 0, 1)
            self.assertEqual(duel.step((0, 0), share), to)
            self.stands(duel, to, 1, 2 in to)
        for challenge, share, to in (
            ((0, 1), 1 - LITTLE, (0, 1)), ((1, 0), h, (0, 1)), ((1, 1), S(2, 3) - LITTLE, (0, 1)),
            ((1, 1), S(2, 3), (0, 2)),
        ):
            duel = Duel(FORK, fork_answers(), 0, 1)
            self.assertEqual(duel.step(challenge, share), to)
            self.stands(duel, to, 1, 2 in to)

    def test_no_challenge(self):
        duel = Duel(FORK, fork_answers(), 0, 1)
        wrong = odd_objects() + [
            (2, 0), (-1, 0), (0, 2), (1, 2), (0, -1), (False, 0), (0, False), (True, 1), (1, True), [0, 0], (0,),
            (0, 0, 0), (S(0), 0), "00", (0, "0"), {0: 0},
        ]
        for thing in wrong:
            for share in (0, None, 1):
                self.refuses(NoChallenge, {"challenge": thing}, duel.step, thing, share)
        self.stands(duel, (0, 1), 0, False)
        self.refuses(NothingDone, {}, duel.back)
        # An option that the other state has is none of this one.
        duel = Duel(SAME, best_answers(SAME), 0, 1)
        self.refuses(NoChallenge, {"challenge": (0, 2)}, duel.step, (0, 2), 0)
        self.assertEqual(duel.step((1, 2), 0)[1], 0)

    def test_bad_factor(self):
        duel = Duel(FORK, fork_answers(), 0, 1)
        duel.step((0, 1), 0)
        for thing in odd_shares():
            self.refuses(BadFactor, {"factor": thing}, duel.step, (0, 0), thing)
            self.refuses(BadFactor, {"factor": thing}, duel.step, (1, 0), thing)
            self.stands(duel, (0, 1), 1, False)
        duel.back()
        self.refuses(NothingDone, {}, duel.back)

    def test_over(self):
        duel = Duel(FORK, fork_answers(), 2, 1)
        for challenge, share in (((0, 0), 0), (None, 0), ((0, 0), 1), (None, None), ((9, 9), h)):
            self.refuses(Over, {}, duel.step, challenge, share)
        self.stands(duel, (2, 1), 0, True)
        self.refuses(NothingDone, {}, duel.back)
        duel = Duel(FORK, fork_answers(), 0, 1)
        self.assertEqual(duel.step((1, 1), S(2, 3)), (0, 2))
        self.refuses(Over, {}, duel.step, (0, 0), 0)
        self.assertEqual(duel.back(), (0, 1))
        self.stands(duel, (0, 1), 0, False)
        self.assertEqual(duel.step((1, 1), 0), (0, 1))
        self.stands(duel, (0, 1), 1, False)

    def test_back_down_to_the_begin(self):
        duel = Duel(FORK, fork_answers(), 0, 1)
        self.refuses(NothingDone, {}, duel.back)
        duel.step((0, 1), 0)
        duel.step((0, 0), S(1, 4))
        self.stands(duel, (1, 1), 2, False)
        self.assertEqual(duel.back(), (0, 1))
        self.assertEqual(duel.step((0, 0), S(3, 4)), (2, 1))
        self.stands(duel, (2, 1), 2, True)
        self.assertEqual(duel.back(), (0, 1))
        self.stands(duel, (0, 1), 1, False)
        self.assertEqual(duel.back(), (0, 1))
        self.stands(duel, (0, 1), 0, False)
        for _ in range(2):
            self.refuses(NothingDone, {}, duel.back)
            self.stands(duel, (0, 1), 0, False)

    def test_any_mixture(self):
        draw = source(266)
        for menu in list(drawn(267, 20)) + DUELS + [FORK]:
            answers = some_answers(draw, menu)
            s, t = draw.choice(all_pairs(menu))
            duel, past, places = Duel(menu, answers, s, t), [], (s, t)
            for _ in range(30):
                ended = menu.label(places[0]) != menu.label(places[1])
                self.stands(duel, places, len(past), ended)
                if draw.random() < 0.3 or ended:
                    if past:
                        places = past.pop()
                        self.assertEqual(duel.back(), places)
                    else:
                        self.refuses(NothingDone, {}, duel.back)
                    continue
                challenge, share = draw.choice(challenges_of(menu, *places)), S(draw.randint(0, 99), 100)
                past.append(places)
                left = fraction(share)
                for to, amount in sorted(answers[places + challenge][1].items(), key=lambda told: told[0]):
                    left -= fraction(amount)
                    if left < 0:
                        places = to
                        break
                self.assertEqual(duel.step(challenge, share), places)

    def test_what_was_passed_may_be_changed(self):
        answers = fork_answers()
        before = copy.deepcopy(answers)
        duel = Duel(FORK, answers, 0, 1)
        self.assertEqual(duel.step((0, 1), 0), (0, 1))
        self.assertEqual(answers, before)
        for told in answers.values():
            told[1].clear()
        answers.clear()
        self.assertEqual(duel.step((0, 0), S(1, 4)), (1, 1))

    def test_the_order_of_the_keys_means_nothing(self):
        turned = {
            call: (option, dict(reversed(list(plan.items()))))
            for call, (option, plan) in reversed(list(fork_answers().items()))
        }
        for at in range(12):
            one, other = Duel(FORK, turned, 0, 1), Duel(FORK, fork_answers(), 0, 1)
            self.assertEqual(one.step((0, 0), S(at, 12)), other.step((0, 0), S(at, 12)))

    def test_two_duels_at_once(self):
        one, other = Duel(FORK, fork_answers(), 0, 1), Duel(FORK, fork_answers(), 0, 1)
        one.step((0, 1), 0)
        self.stands(other, (0, 1), 0, False)
        self.refuses(NothingDone, {}, other.back)

    def test_five_states(self):
        menu = drawn_menu(source(268), 5, "aab")
        duel = Duel(menu, best_answers(menu), 4, 4)
        self.stands(duel, (4, 4), 0, False)
        self.assertEqual(len(duel.step((1, menu.options(4) - 1), h)), 2)


if __name__ == "__main__":
    unittest.main()
