"""[23.1] to [23.3]: papers for duels."""

import itertools
import unittest

from bothwalks.duelpapers import answer_paper, challenge_paper, is_answer_paper, is_challenge_paper
from bothwalks.duels import best_answers, duel_distances
from bothwalks.errors import NoState
from bothwalks.menus import Menu, single
from tests.helpers import (
    Case, S, all_pairs, challenges_of, corner_answers, drawn_menu, fraction, h, like_pairs, odd_objects, some_answers,
    source, spreads_met,
)
from tests.test_chains import SWAP, THREE, one_state
from tests.test_duels import AGAIN, DUELS, MENU, PUTS_OFF, RINGS, SAME, SURE, drawn, mixed

LITTLE = S(1, 10 ** 12)
MEET = {(1, 1): 1}
SPLIT = {(1, 1): h, (2, 1): h}
# What the answerer of MENU has to show for (0, 1): it is led to (1, 1), or with a half to (2, 1).
RIGHT = {
    (0, 1): (h, {(0, 0): (0, MEET), (0, 1): (0, SPLIT), (1, 0): (0, MEET)}),
    (1, 1): (0, {(0, 0): (0, MEET), (1, 0): (0, MEET)}),
    (2, 1): (1, None),
}
LONE = single(one_state())


def with_answer(call, answer):
    """The paper with another answer to a challenge of (0, 1)."""
    return {**RIGHT, (0, 1): (h, {**RIGHT[(0, 1)][1], call: answer})}


def by_hand(menu, numbers, told):
    """A challenge paper in which all pairs that are not told have no challenge."""
    return {pair: (numbers[pair],) + told.get(pair, (None, None)) for pair in all_pairs(menu)}


def three_numbers(number):
    """Numbers for a menu of three states, of which 2 has another label and 0 and 1 are so far apart."""
    return {(s, t): 1 if (s == 2) != (t == 2) else number if s != t else 0 for s in range(3) for t in range(3)}


PRICES, TURNED = ((0, 0, 1), (0, 0, -1)), ((-1, 0, -1), (0, 0, 1))
FULL = by_hand(MENU, three_numbers(h), {(0, 1): ((0, 1), (PRICES,)), (1, 0): ((1, 1), (TURNED,))})


def shown_most(menu, paper):
    """Whether an answer paper whose entries are of the right kinds is right, looked at in fractions."""
    for (s, t), (number, answers) in paper.items():
        if answers is None:
            if fraction(number) < 1:
                return False
            continue
        for _, plan in answers.values():
            if any(to not in paper for to in plan):
                return False
            if fraction(number) < sum(fraction(amount) * fraction(paper[to][0]) for to, amount in plan.items()):
                return False
    return True


def hiding_sets(menu, paper):
    """All nonempty sets of pairs that hide, by a look at all corner plans, as tuples."""
    onward = {
        (s, t): [set(plan) for _, plan in corner_answers(menu, s, t, told[1])]
        for (s, t), told in paper.items() if told[1] is not None
    }
    return [
        pairs for many in range(1, len(onward) + 1) for pairs in itertools.combinations(onward, many)
        if all(any(plan <= set(pairs) for plan in onward[pair]) for pair in pairs)
    ]


def priced_right(menu, paper):
    """Whether the prices bear out the numbers, looked at in fractions."""
    for (s, t), (number, challenge, prices) in paper.items():
        if challenge is not None:
            for answer, (u, v) in enumerate(prices):
                p, q = spreads_met(menu, s, t, challenge, answer)
                if any(fraction(u[i]) + fraction(v[j]) > fraction(paper[(i, j)][0]) for i, j in paper):
                    return False
                own = sum(fraction(x) * fraction(y) for x, y in zip(p + q, u + v))
                if own < fraction(number):
                    return False
    return True


class AnswerPaperTest(Case):

    def test_answer_paper(self):
        self.assertEqual(answer_paper(MENU, 0, 2), {(0, 2): (1, None)})
        self.assertEqual(answer_paper(MENU, 0, 1), RIGHT)
        self.assertEqual(answer_paper(MENU, 1, 1), {(1, 1): RIGHT[(1, 1)]})
        stay = {(0, 0): (0, {(0, 0): 1}), (1, 0): (0, {(0, 0): 1})}
        self.assertEqual(answer_paper(LONE, 0, 0), {(0, 0): (0, stay)})

    def test_drawn_menus(self):
        for menu in mixed(271, 8) + DUELS:
            found = duel_distances(menu)
            for s, t in all_pairs(menu):
                paper = answer_paper(menu, s, t)
                self.assertIs(type(paper), dict)
                self.assertIn((s, t), paper)
                self.assertEqual(list(paper), sorted(paper))
                self.judges(True, is_answer_paper, menu, paper)
                self.assertTrue(shown_most(menu, paper))
                for pair, (number, answers) in paper.items():
                    self.is_share(number)
                    self.assertEqual(number, found[pair])
                    if answers is not None:
                        self.assertIn(pair, like_pairs(menu))
                        self.assertEqual(list(answers), challenges_of(menu, *pair))
                        for option, plan in answers.values():
                            self.assertIs(type(option), int)
                            self.assertEqual(list(plan), sorted(plan))
                            self.are_shares(plan.values())

    def test_no_state(self):
        for thing in odd_objects() + [3, -1, S(0)]:
            self.refuses(NoState, {"state": thing}, answer_paper, MENU, thing, 0)
            self.refuses(NoState, {"state": thing}, answer_paper, MENU, 0, thing)
            self.refuses(NoState, {"state": thing}, answer_paper, MENU, thing, 9)


class IsAnswerPaperTest(Case):

    def test_right_ones(self):
        for paper in (
            {}, RIGHT, {(0, 2): (1, None)}, {(0, 2): (7, None)}, {(0, 1): (1, None)}, {(1, 1): (1, None)},
            {(0, 0): (S(3, 2), None)}, {(0, 2): (1 + LITTLE, None)}, {**RIGHT, (0, 1): (h + LITTLE, RIGHT[(0, 1)][1])},
            {**RIGHT, (0, 1): (1, RIGHT[(0, 1)][1])}, {**RIGHT, (0, 1): (9, RIGHT[(0, 1)][1])},
            {**RIGHT, (1, 1): (S(1, 3), RIGHT[(1, 1)][1]), (0, 1): (S(2, 3), RIGHT[(0, 1)][1])},
            {**RIGHT, (2, 1): (S(4, 3), None), (0, 1): (S(2, 3), RIGHT[(0, 1)][1])}, {(1, 1): RIGHT[(1, 1)]},
            {**RIGHT, (1, 2): (1, None), (2, 2): (1, None), (0, 0): (1, None)},
        ):
            self.judges(True, is_answer_paper, MENU, paper)
        stay = {(1, 0): (0, {(0, 0): S(1)}), (0, 0): (0, {(0, 0): 1})}
        for number in (0, S(0), LITTLE, 1, 10 ** 20):
            self.judges(True, is_answer_paper, LONE, {(0, 0): (number, stay)})

    def test_numbers(self):
        for paper in (
            {(0, 2): (1 - LITTLE, None)}, {(0, 1): (1 - LITTLE, None)}, {(0, 2): (0, None)}, {(0, 0): (0, None)},
            {**RIGHT, (0, 1): (h - LITTLE, RIGHT[(0, 1)][1])}, {**RIGHT, (2, 1): (1 - LITTLE, None)},
            {**RIGHT, (1, 1): (LITTLE, RIGHT[(1, 1)][1])}, {**RIGHT, (2, 1): (1 + LITTLE, None)},
            {**RIGHT, (1, 1): (-LITTLE, RIGHT[(1, 1)][1])}, {**RIGHT, (1, 1): (False, RIGHT[(1, 1)][1])},
            {(0, 2): (True, None)}, {**RIGHT, (0, 1): (True, RIGHT[(0, 1)][1])},
            {**RIGHT, (1, 1): (h + LITTLE, RIGHT[(1, 1)][1])},
            {**RIGHT, (1, 1): (S(1, 3), RIGHT[(1, 1)][1]), (0, 1): (S(2, 3) - LITTLE, RIGHT[(0, 1)][1])},
        ):
            self.judges(False, is_answer_paper, MENU, paper)

    def test_each_answer_must_hold(self):
        # An answer to one challenge that leads to more is as bad as all of them.
        for call, answer in (((0, 0), (0, MEET)), ((0, 1), (0, SPLIT)), ((1, 0), (0, MEET))):
            self.judges(True, is_answer_paper, MENU, with_answer(call, answer))
        split = with_answer((1, 0), (1, SPLIT))
        self.judges(True, is_answer_paper, MENU, split)
        self.judges(False, is_answer_paper, MENU, {**split, (0, 1): (h - LITTLE, split[(0, 1)][1])})
        low = {**RIGHT, (2, 1): (S(3, 2), None)}
        self.judges(False, is_answer_paper, MENU, low)
        self.judges(True, is_answer_paper, MENU, {**low, (0, 1): (S(3, 4), RIGHT[(0, 1)][1])})

    def test_pairs(self):
        for paper in (
            {(0, 1): RIGHT[(0, 1)], (1, 1): RIGHT[(1, 1)]}, {(0, 1): RIGHT[(0, 1)], (2, 1): (1, None)},
            {(0, 1): RIGHT[(0, 1)]}, {**RIGHT, (0, 3): (1, None)}, {**RIGHT, (-1, 0): (1, None)},
            {**RIGHT, (0, True, 1): (1, None)}, {**RIGHT, (0, False): (1, None)}, {**RIGHT, 0: (1, None)},
            {**RIGHT, "ab": (1, None)}, {**RIGHT, (0, 1, 2): (1, None)}, {**RIGHT, (): (1, None)},
            {(0, True): RIGHT[(0, 1)], (1, 1): RIGHT[(1, 1)], (2, 1): (1, None)},
            {(0, 1): RIGHT[(0, 1)], (True, 1): RIGHT[(1, 1)], (2, 1): (1, None)},
            {**RIGHT, (1, 0): RIGHT[(0, 1)]},
        ):
            self.judges(False, is_answer_paper, MENU, paper)

    def test_answers(self):
        answers = RIGHT[(0, 1)][1]
        for told in (
            {}, [answers], list(answers.items()), {**answers, (1, 1): (0, MEET)}, {**answers, (0, 2): (0, MEET)},
            {**answers, (2, 0): (0, MEET)}, {**answers, (0, 0, 0): (0, MEET)}, {**answers, 0: (0, MEET)},
            {call: told for call, told in answers.items() if call != (0, 0)},
            {call: told for call, told in answers.items() if call != (0, 1)},
            {call: told for call, told in answers.items() if call != (1, 0)},
            {(bool(side), option): told for (side, option), told in answers.items()},
            {(side, bool(option)): told for (side, option), told in answers.items()}, None, (h, answers),
        ):
            self.judges(False, is_answer_paper, MENU, {**RIGHT, (0, 1): (S(3, 4), told)})
        for wrong in (
            (1, MEET), (-1, MEET), (False, MEET), (0,), (0, MEET, 0), [0, MEET], None, MEET, (0, None), (0, {}),
            (0, SPLIT), (0, {(1, 1): h}), (0, {(1, True): 1}), (0, {(1, 1): 1, (0, 1): 0}), (0, {(0, 1): 1}),
            (S(0), MEET), ("0", MEET), (0, {(1, 1): 2, (0, 0): -1}),
        ):
            self.judges(False, is_answer_paper, MENU, {**RIGHT, **with_answer((0, 0), wrong)})
            paper = with_answer((0, 0), wrong)
            self.judges(False, is_answer_paper, MENU, {**paper, (0, 1): (9, paper[(0, 1)][1])})
        # The answer to a challenge of the second walker has an option of the first one.
        self.judges(False, is_answer_paper, MENU, with_answer((1, 0), (2, SPLIT)))
        self.judges(False, is_answer_paper, MENU, with_answer((1, 0), (1, MEET)))
        # A pair with unlike labels has no answers, how high its number may be.
        paper = {(2, 1): (5, {(0, 0): (0, {(2, 1): 1}), (1, 0): (0, {(2, 1): 1})})}
        self.judges(False, is_answer_paper, MENU, paper)
        same = Menu((((0, 1, 0), (0, h, h)), ((0, 1, 0),), ((0, 0, 1),)), ("a", "a", "a"))
        self.judges(True, is_answer_paper, same, paper)

    def test_other_objects(self):
        answers = RIGHT[(0, 1)][1]
        for thing in odd_objects():
            self.judges(thing == {} and isinstance(thing, dict), is_answer_paper, MENU, thing)
            for told in (
                thing, (thing,), (h, answers, thing), [h, answers], (h, thing), (h, {**answers, (0, 0): thing}),
                (h, {**answers, (0, 0): (thing, MEET)}), (h, {**answers, (0, 0): (0, thing)}),
            ):
                self.judges(False, is_answer_paper, MENU, {**RIGHT, (0, 1): told})
            enough = isinstance(thing, (S, int)) and not isinstance(thing, bool) and not (h - thing).top > 0
            self.judges(enough, is_answer_paper, MENU, {**RIGHT, (0, 1): (thing, answers)})

    def test_what_is_judged_right_is_right(self):
        draw = source(272)
        told = {True: 0, False: 0}
        for menu in list(drawn(273, 10)) + DUELS:
            found = duel_distances(menu)
            for s, t in all_pairs(menu):
                for _ in range(4):
                    paper = answer_paper(menu, s, t)
                    some = some_answers(draw, menu)
                    for pair in list(paper):
                        number, answers = paper[pair]
                        number = number + draw.choice([0, 0, 0, 1, -1]) * S(1, draw.randint(2, 9))
                        if answers is not None and draw.random() < 0.2:
                            answers = {call: some[pair + call] for call in answers}
                        paper[pair] = (number, answers)
                    right = shown_most(menu, paper) and all(fraction(number) >= 0 for number, _ in paper.values())
                    self.judges(right, is_answer_paper, menu, paper)
                    told[right] += 1
                    if right:
                        for pair in paper:
                            self.assertFalse(paper[pair][0].less(found[pair]))
        self.assertGreater(min(told.values()), 50)


class ChallengePaperTest(Case):

    def test_challenge_paper(self):
        paper = challenge_paper(MENU)
        self.assertEqual(paper[(0, 1)][:2], (h, (0, 1)))
        self.assertEqual(paper[(1, 0)][:2], (h, (1, 1)))
        self.assertEqual(paper[(0, 2)], (1, None, None))
        self.assertEqual(paper[(0, 0)], (0, None, None))
        self.assertEqual(challenge_paper(LONE), {(0, 0): (0, None, None)})
        self.assertEqual(challenge_paper(PUTS_OFF)[(0, 1)][:2], (S(1, 3), (0, 1)))

    def test_drawn_menus(self):
        claims = 0
        for menu in mixed(274, 15) + DUELS + RINGS:
            found, paper = duel_distances(menu), challenge_paper(menu)
            self.assertIs(type(paper), dict)
            self.assertEqual(list(paper), all_pairs(menu))
            self.judges(True, is_challenge_paper, menu, paper)
            self.assertTrue(priced_right(menu, paper))
            for (s, t), told in paper.items():
                number, challenge, prices = told
                self.assertIs(type(told), tuple)
                self.is_share(number)
                self.assertEqual(number, found[(s, t)])
                if challenge is not None:
                    claims += 1
                    self.assertIn(challenge, challenges_of(menu, s, t))
                    self.assertEqual(len(prices), menu.options(s if challenge[0] else t))
                    for side in [side for some in prices for side in some]:
                        self.assertEqual(len(side), menu.size)
                        self.are_shares(side)
                else:
                    self.assertIs(prices, None)
            if len([told for told in paper.values() if told[1] is not None]) <= 6:
                self.assertEqual(hiding_sets(menu, paper), [])
        self.assertGreater(claims, 30)


class IsChallengePaperTest(Case):

    def test_right_ones(self):
        self.judges(True, is_challenge_paper, MENU, FULL)
        none = by_hand(MENU, three_numbers(0), {})
        self.judges(True, is_challenge_paper, MENU, none)
        self.judges(True, is_challenge_paper, MENU, {pair: (S(0), None, None) for pair in all_pairs(MENU)})
        for pair in ((0, 2), (2, 0), (1, 2), (2, 1)):
            for number in (0, h, LITTLE, 1, S(1), 1 - LITTLE):
                self.judges(True, is_challenge_paper, MENU, {**none, pair: (number, None, None)})
        # Numbers may be below the distance, and need not be the same both ways about.
        for number in (LITTLE, S(1, 3), h):
            paper = {**FULL, (0, 1): (number, (0, 1), FULL[(0, 1)][2])}
            self.judges(False, is_challenge_paper, MENU, {**paper, (0, 1): (number, None, None)})
            lower = ((0, 0, number + number), (0, 0, -number - number))
            self.judges(True, is_challenge_paper, MENU, {**FULL, (0, 1): (number, (0, 1), (lower,))})
        self.judges(True, is_challenge_paper, MENU, {**FULL, (1, 0): (0, None, None)})
        self.judges(True, is_challenge_paper, LONE, {(0, 0): (0, None, None)})

    def test_numbers(self):
        for number in (1 + LITTLE, -LITTLE, -1, 2, True, False, None, "1"):
            for pair in ((0, 2), (0, 0), (2, 1)):
                self.judges(False, is_challenge_paper, MENU, {**FULL, pair: (number, None, None)})
        for number in (h + LITTLE, 1, 2, -h, True):
            self.judges(False, is_challenge_paper, MENU, {**FULL, (0, 1): (number,) + FULL[(0, 1)][1:]})
        # What is proved hangs on the numbers to which it leads.
        for pair in ((2, 1),):
            self.judges(False, is_challenge_paper, MENU, {**FULL, pair: (1 - LITTLE, None, None)})
        self.judges(False, is_challenge_paper, MENU, {**FULL, (1, 2): (1 - LITTLE, None, None)})

    def test_pairs_without_a_challenge(self):
        for pair in all_pairs(MENU):
            number = FULL[pair][0]
            for told in ((number, (0, 0), None), (number, None, (PRICES,)), (number, None, ()), (number, (0, 0), (PRICES,)),
                         (number, None), (number,), (number, None, None, None), [number, None, None], None):
                self.judges(False, is_challenge_paper, MENU, {**FULL, pair: told})

    def test_keys(self):
        self.judges(False, is_challenge_paper, MENU, {})
        for pair in all_pairs(MENU):
            fewer = {key: told for key, told in FULL.items() if key != pair}
            self.judges(False, is_challenge_paper, MENU, fewer)
            if pair != (2, 2):
                self.judges(False, is_challenge_paper, MENU, {**fewer, (3, 3): FULL[pair]})
        for key in ((0, 3), (3, 0), (-1, 0), (0,), (0, 1, 2), 0, "ab", None, ((0, 1), 1)):
            self.judges(False, is_challenge_paper, MENU, {**FULL, key: (0, None, None)})
        for place in (0, 1):
            for number in (0, 1):
                flagged = {
                    tuple(bool(at) if spot == place and at == number else at for spot, at in enumerate(key)): told
                    for key, told in FULL.items()
                }
                self.assertEqual(flagged, FULL)
                self.judges(False, is_challenge_paper, MENU, flagged)
        self.judges(True, is_challenge_paper, MENU, dict(reversed(list(FULL.items()))))

    def test_challenges(self):
        prices = FULL[(0, 1)][2]
        for challenge in odd_objects() + [
            (2, 1), (-1, 1), (0, 2), (1, 1), (0, -1), (0,), (0, 1, 0), [0, 1], (False, 1), (0, True), (S(0), 1), "01",
            (0, None), None,
        ]:
            self.judges(False, is_challenge_paper, MENU, {**FULL, (0, 1): (h, challenge, prices)})
        # (0, 0) and (1, 0) lead to (1, 1), where nothing is to be won.
        for challenge in ((0, 0), (1, 0)):
            for some in ((PRICES,), (PRICES, PRICES), (((0, 0, 0), (0, 0, 0)),) * 2):
                self.judges(False, is_challenge_paper, MENU, {**FULL, (0, 1): (LITTLE, challenge, some)})

    def test_prices(self):
        for prices in odd_objects() + [
            (), (PRICES, PRICES), [PRICES], PRICES, (PRICES[0],), ((PRICES[0],),), ([*PRICES],), (PRICES + ((0, 0, 0),),),
            (((0, 0, 1), (0, 0)),), (((0, 0, 1, 0), (0, 0, -1, 0)),), (((0, 0, 1), [0, 0, -1]),), None,
            (((0, 0, 1), (0, 0, -1 + LITTLE)),), (((0, 0, 1 + LITTLE), (0, 0, -1)),), (((0, 0, 1 - LITTLE), (0, 0, -1)),),
            (((0, -LITTLE, 1), (0, 0, -1)),), (((0, 0, 1), (0, -LITTLE, -1)),), (((0, 0, True), (0, 0, -1)),),
            (((False, 0, 1), (0, 0, -1)),), (((0, 0, 0), (0, 0, 0)),),
        ]:
            self.judges(False, is_challenge_paper, MENU, {**FULL, (0, 1): (h, (0, 1), prices)})

    def test_prices_for_each_answer(self):
        # 1 may stay, or go to 2 with a half as 0 does, or with a third.
        menu = Menu((
            ((0, h, h),), ((0, 1, 0), (0, S(2, 3), S(1, 3))), ((0, 0, 1),),
        ), ("a", "a", "b"))
        paper = challenge_paper(menu)
        number, challenge, prices = paper[(0, 1)]
        self.assertEqual((number, challenge), (h, (1, 0)))
        number, challenge, prices = paper[(1, 0)]
        self.assertEqual((number, challenge), (h, (0, 0)))
        told = (S(1, 6), (0, 0), (PRICES, PRICES))
        numbers = three_numbers(S(1, 6))
        right = {**by_hand(menu, numbers, {}), (0, 1): told, (1, 0): (0, None, None)}
        self.judges(True, is_challenge_paper, menu, right)
        flat = ((0, 0, 0), (0, 0, 0))
        for some in ((PRICES,), (PRICES, flat), (flat, PRICES), (PRICES,) * 3, (flat, flat)):
            self.judges(False, is_challenge_paper, menu, {**right, (0, 1): (S(1, 6), (0, 0), some)})
        self.judges(False, is_challenge_paper, menu, {**right, (0, 1): (S(1, 6) + LITTLE,) + told[1:]})

    def test_one_pair_hides(self):
        # To stay proves any number by itself; only that the pair hides tells that it is wrong.
        for menu in (PUTS_OFF, SURE, AGAIN):
            found = duel_distances(menu)
            honest = challenge_paper(menu)
            self.judges(True, is_challenge_paper, menu, honest)
            for pair, side in (((0, 1), 0), ((1, 0), 1)):
                for number in (found[pair], h, LITTLE, 1):
                    prices = ((number, -1, -1), (-1, 0, -1))
                    prices = (prices if side == 0 else prices[::-1],)
                    fits = {(i, j): 0 if i == j else 1 for i, j in all_pairs(menu)}
                    other = (pair[1], pair[0])
                    told = {pair: (number, (side, 0), prices), other: (0, None, None)}
                    paper = {key: (fits[key], None, None) if key not in told else told[key] for key in fits}
                    self.assertTrue(priced_right(menu, paper))
                    self.assertEqual(hiding_sets(menu, paper), [(pair,)])
                    self.judges(False, is_challenge_paper, menu, paper)

    def test_a_pair_of_equal_states_hides(self):
        for number in (1, LITTLE):
            self.judges(False, is_challenge_paper, LONE, {(0, 0): (number, (0, 0), (((number,), (0,)),))})
            self.judges(False, is_challenge_paper, LONE, {(0, 0): (number, (1, 0), (((0,), (number,)),))})

    def test_several_pairs_hide_together(self):
        menu = single(SWAP)
        flat = {(0, 0): (0, None, None), (1, 1): (0, None, None)}
        for number in (1, S(1, 7)):
            paper = {
                **flat, (0, 1): (number, (0, 0), (((-1, number), (0, -1)),)),
                (1, 0): (number, (0, 0), (((number, -1), (-1, 0)),)),
            }
            self.assertTrue(priced_right(menu, paper))
            self.assertEqual(hiding_sets(menu, paper), [((0, 1), (1, 0))])
            self.judges(False, is_challenge_paper, menu, paper)

    def test_just_one_set_that_hides(self):
        # All other pairs are honest; what is wrong is but one pair among many.
        menu = Menu((
            ((1, 0, 0, 0), (0, 0, h, h)), ((0, 1, 0, 0),), ((0, 0, h, h),), ((0, 0, 0, 1),),
        ), ("a", "a", "a", "b"))
        honest = challenge_paper(menu)
        self.judges(True, is_challenge_paper, menu, honest)
        self.assertEqual(hiding_sets(menu, honest), [])
        number = honest[(0, 1)][0]
        self.assertEqual(number, 1)
        u = (number, 0, 0, 0)
        v = tuple(min((honest[(i, j)][0] - u[i] for i in range(4)), key=fraction) for j in range(4))
        paper = {**honest, (0, 1): (number, (0, 0), ((u, v),))}
        self.assertTrue(priced_right(menu, paper))
        self.assertEqual(hiding_sets(menu, paper), [((0, 1),)])
        self.judges(False, is_challenge_paper, menu, paper)

    def test_other_objects(self):
        for thing in odd_objects():
            self.judges(False, is_challenge_paper, MENU, thing)
            for told in (thing, (thing,), (h, (0, 1), (PRICES,), thing), (h, thing, (PRICES,)), (h, (0, 1), thing),
                         (h, (0, 1), (thing,)), (h, (0, 1), ((PRICES[0], thing),)), (h, (thing, 1), (PRICES,)),
                         (h, (0, thing), (PRICES,))):
                self.judges(False, is_challenge_paper, MENU, {**FULL, (0, 1): told})
            right = isinstance(thing, S) and thing == h
            self.judges(right, is_challenge_paper, MENU, {**FULL, (0, 1): (thing, (0, 1), (PRICES,))})
            self.judges(right, is_challenge_paper, MENU, {**FULL, (0, 2): (thing, None, None)})
            self.judges(False, is_challenge_paper, LONE, thing)

    def test_what_is_judged_right_is_right(self):
        draw = source(275)
        told = {True: 0, False: 0, "hiding": 0}
        for menu in list(drawn(276, 12, (3,))) + DUELS * 2:
            found = duel_distances(menu)
            for _ in range(12):
                paper = challenge_paper(menu)
                for pair in like_pairs(menu):
                    number, challenge, prices = paper[pair]
                    if challenge is not None and draw.random() < 0.4:
                        paper[pair] = self.another(draw, menu, paper, pair)
                if len([1 for told in paper.values() if told[1] is not None]) > 6:
                    continue
                right = priced_right(menu, paper)
                if right and hiding_sets(menu, paper):
                    told["hiding"] += 1
                    right = False
                self.judges(right, is_challenge_paper, menu, paper)
                told[right] += 1
                if right:
                    for pair in paper:
                        self.assertFalse(found[pair].less(paper[pair][0]))
        self.assertGreater(min(told.values()), 10)

    def another(self, draw, menu, paper, pair):
        """Another challenge of the pair with the best prices, and a number that may be a little changed."""
        from bothwalks.carrying import carry
        number = paper[pair][0]
        if draw.random() < 0.3:
            number = number * S(draw.randint(1, 9), 9)
        challenge = draw.choice(challenges_of(menu, *pair))
        costs = {key: told[0] for key, told in paper.items()}
        answers = range(menu.options(pair[1 - challenge[0]]))
        return (number, challenge, tuple(
            carry(*spreads_met(menu, *pair, challenge, answer), costs)[2] for answer in answers
        ))


class BestPapersTest(Case):

    def test_papers_of_five_states(self):
        draw = source(277)
        for names in ("aaaab", "aabbc"):
            menu = drawn_menu(draw, 5, names, 0.2)
            self.judges(True, is_challenge_paper, menu, challenge_paper(menu))
            self.judges(True, is_answer_paper, menu, answer_paper(menu, 0, 4))

    def test_they_fit_best_answers(self):
        for menu in (MENU, SAME):
            answers = best_answers(menu)
            for pair, (_, told) in answer_paper(menu, 0, 1).items():
                for call, answer in (told or {}).items():
                    self.assertEqual(answers[pair + call], answer)

    def test_for_chains(self):
        menu = single(THREE)
        self.assertEqual(challenge_paper(menu)[(0, 1)][0], h)
        self.assertEqual(answer_paper(menu, 0, 1)[(0, 1)][0], h)


if __name__ == "__main__":
    unittest.main()
