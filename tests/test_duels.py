"""[22.1] to [22.3]: duel distances, best challenges and best answers."""

import itertools
import unittest

from bothwalks.chains import Chain
from bothwalks.duelling import duel_share
from bothwalks.duelpapers import answer_paper, challenge_paper, is_answer_paper, is_challenge_paper
from bothwalks.duels import best_answers, best_challenges, duel_distance, duel_distances
from bothwalks.errors import NoState
from bothwalks.menulumps import menu_lumps
from bothwalks.menus import Menu, single
from bothwalks.near import distances
from tests.helpers import (
    Case, S, all_pairs, challenges_of, corner_answers, drawn_menu, fraction, h, like_pairs, odd_objects,
    some_answers, some_challenges, source,
)
from tests.test_chains import COIN, SWAP, THREE, one_state, ring
from tests.test_lumps import chains as doubled_chains
from tests.test_menulumps import drawn as lumpy

# The example: 0 may go to 1, or to 1 and 2 by halves; 1 and 2 stay.
MENU = Menu((((0, 1, 0), (0, h, h)), ((0, 1, 0),), ((0, 0, 1),)), ("a", "a", "b"))
# 0 may stay, which puts all off, or try to get to 2 with a third, and to 1 otherwise.
PUTS_OFF = Menu((((1, 0, 0), (0, S(2, 3), S(1, 3))), ((0, 1, 0),), ((0, 0, 1),)), ("a", "a", "b"))
# 0 may go to 2 at once, which 1 cannot.
SURE = Menu((((1, 0, 0), (0, 0, 1)), ((0, 1, 0),), ((0, 0, 1),)), ("a", "a", "b"))
# 0 comes to 2 in the end if it tries again and again, and 1 never does.
AGAIN = Menu((((1, 0, 0), (S(3, 4), 0, S(1, 4))), ((0, 1, 0),), ((0, 0, 1),)), ("a", "a", "b"))
# 0 and 1 can do the same; so the answerer puts it off for ever.
SAME = Menu((((1, 0, 0), (0, 0, 1)), ((0, 0, 1), (0, 1, 0), (1, 0, 0)), ((0, 0, 1),)), ("a", "a", "b"))
DUELS = [MENU, PUTS_OFF, SURE, AGAIN, SAME]


def even_menu(*moves):
    """A menu by the states to which each option leads, all with the same share; the last state has another label."""
    many = len(moves)
    spreads = tuple(
        tuple(tuple(S(int(to in option), len(option)) for to in range(many)) for option in options)
        for options in moves
    )
    return Menu(spreads, ("a",) * (many - 1) + ("b",))


# Here a search that goes on from just any challenges, by which pairs may hide, ends with too great numbers.
RINGS = [even_menu(*moves) for moves in (
    (((0,), (4,), (2,)), ((1, 3), (1,), (4,)), ((2,), (1,), (2,)), ((3, 4),), ((4,),)),
    (((2,), (1, 3)), ((3,),), ((1, 2), (3,), (4,)), ((2,), (2,), (1,)), ((2, 3),)),
    (((3,),), ((3,), (2,)), ((2, 4), (1,), (0,)), ((2,),), ((3,), (0, 2), (1,))),
    (((3,), (0,)), ((0,), (1, 4)), ((4,), (2,)), ((0,),), ((3,), (0, 3))),
    (((0,), (1,), (3,)), ((1,), (2,)), ((0,), (3,), (2,)), ((1,), (2,), (1, 3))),
)]


def drawn(seed, many, sizes=(3, 4), names=("ab", "aab", "aaab"), zeros=(0.3, 0.6)):
    """Drawn menus with unlike labels, and with two states of the same label."""
    draw = source(seed)
    while many:
        menu = drawn_menu(draw, draw.choice(sizes), draw.choice(names), draw.choice(zeros), draw.choice([1, 2, 3]))
        if 1 < len({menu.label(state) for state in range(menu.size)}) < menu.size:
            many = many - 1
            yield menu


def mixed(seed, many):
    """Drawn menus, also such with states that are alike."""
    return list(drawn(seed, many)) + list(lumpy(seed + 1, many, (2, 3, 4)))


def plans_of(menu):
    """For each pair with the same label and each challenge all answers of corner plans, as lists of amounts."""
    return {
        (s, t): [
            [[(pair, fraction(amount)) for pair, amount in plan.items()]
             for _, plan in corner_answers(menu, s, t, challenge)]
            for challenge in challenges_of(menu, s, t)
        ] for s, t in like_pairs(menu)
    }


def looked_at_once(menu, plans, known):
    """The right side of the equations of the duel distances, by all corner plans."""
    found = {}
    for pair in all_pairs(menu):
        if pair not in plans:
            found[pair] = 1
        else:
            found[pair] = max(
                min(sum(amount * known[to] for to, amount in plan) for plan in answers) for answers in plans[pair]
            )
    return found


class DuelDistancesTest(Case):

    def test_duel_distances(self):
        self.assertEqual(duel_distances(MENU), {
            (0, 0): 0, (0, 1): h, (0, 2): 1, (1, 0): h, (1, 1): 0, (1, 2): 1, (2, 0): 1, (2, 1): 1, (2, 2): 0,
        })
        for menu, distance in ((PUTS_OFF, S(1, 3)), (SURE, 1), (AGAIN, 1), (SAME, 0)):
            self.assertEqual(duel_distance(menu, 0, 1), distance)
            self.assertEqual(duel_distance(menu, 1, 0), distance)
        self.assertEqual(duel_distances(single(one_state())), {(0, 0): 0})
        self.assertEqual(duel_distances(Menu((((1,), (1,), (1,)),), ("a",))), {(0, 0): 0})

    def test_the_challenger_may_wait_for_nothing(self):
        # Wherever the challenger may put all off, any greater number would solve the equation, too.
        for menu in (PUTS_OFF, MENU):
            for moves in ([(1, 0, 0)], [(1, 0, 0), (1, 0, 0)]):
                told = [menu.spread(0, option) for option in range(menu.options(0))][-1:]
                more = Menu((tuple(moves + told), ((0, 1, 0),), ((0, 0, 1),)), ("a", "a", "b"))
                self.assertEqual(duel_distance(more, 0, 1), told[0][2])

    def test_the_second_walker_is_challenged(self):
        turned = Menu((((1, 0, 0),), ((0, 1, 0), (S(2, 3), 0, S(1, 3))), ((0, 0, 1),)), ("a", "a", "b"))
        self.assertEqual(duel_distance(turned, 0, 1), S(1, 3))
        self.assertEqual(duel_distance(turned, 1, 0), S(1, 3))

    def test_the_equations(self):
        between = 0
        for menu in mixed(241, 20) + DUELS + RINGS:
            found = duel_distances(menu)
            self.assertIs(type(found), dict)
            self.assertEqual(list(found), all_pairs(menu))
            self.are_shares(found.values())
            known = {pair: fraction(share) for pair, share in found.items()}
            self.assertEqual(looked_at_once(menu, plans_of(menu), known), known)
            between += any(0 < share < 1 for share in known.values())
            for s, t in all_pairs(menu):
                self.assertEqual(duel_distance(menu, s, t), found[(s, t)])
        self.assertGreater(between, 10)

    def test_the_least_solution(self):
        # From 0 on the right sides come as near as one likes to the least solution, and never above it.
        near = 0
        for menu in mixed(243, 12) + DUELS + RINGS:
            plans = {
                pair: [[[(to, float(amount)) for to, amount in plan] for plan in answers] for answers in told]
                for pair, told in plans_of(menu).items()
            }
            known = {pair: 0.0 for pair in all_pairs(menu)}
            for _ in range(150):
                known = looked_at_once(menu, plans, known)
            for pair, share in duel_distances(menu).items():
                self.assertLessEqual(known[pair], float(fraction(share)) + 1e-9)
                near += pair[0] != pair[1] and 1e-3 < known[pair] < 1 - 1e-3
                self.assertLess(float(fraction(share)) - known[pair], 1e-3)
        self.assertGreater(near, 10)

    def test_zero_exactly_in_a_part(self):
        zeros = 0
        for menu in mixed(245, 25):
            found = duel_distances(menu)
            part = {state: states for states in menu_lumps(menu) for state in states}
            for s, t in all_pairs(menu):
                self.assertIs(found[(s, t)] == 0, part[s] == part[t])
                self.assertEqual(found[(s, t)], found[(t, s)])
                zeros += s != t and part[s] == part[t]
                for u in range(menu.size):
                    self.assertFalse((found[(s, t)] + found[(t, u)]).less(found[(s, u)]))
        self.assertGreater(zeros, 10)

    def test_for_chains_they_are_the_distances(self):
        for chain in list(doubled_chains(246, 25)) + [COIN, SWAP, THREE, ring(5), one_state()]:
            if chain.size <= 5:
                self.assertEqual(duel_distances(single(chain)), distances(chain))

    def test_options_that_stand_twice_mean_nothing(self):
        for menu in drawn(247, 10, (3, 4)):
            moves = [[menu.spread(state, option) for option in range(menu.options(state))]
                     for state in range(menu.size)]
            twice = tuple(tuple((options * 3)[:3] if len(options) < 3 else options[::-1]) for options in moves)
            labels = tuple(menu.label(state) for state in range(menu.size))
            self.assertEqual(duel_distances(Menu(twice, labels)), duel_distances(menu))

    def test_papers_bound_them_from_both_sides(self):
        for menu in list(drawn(248, 6, (4, 5), ("aab", "aaab"))) + list(drawn(249, 2, (5,), ("aaaab",), (0.1,))):
            found = duel_distances(menu)
            paper = challenge_paper(menu)
            self.judges(True, is_challenge_paper, menu, paper)
            self.assertEqual({pair: paper[pair][0] for pair in paper}, found)
            for s, t in all_pairs(menu):
                most = answer_paper(menu, s, t)
                self.judges(True, is_answer_paper, menu, most)
                self.assertEqual(most[(s, t)][0], found[(s, t)])

    def test_long_shares(self):
        bottoms = (999999999989, 999999999961, 999999999937)
        row = tuple(S(1, bottom) for bottom in bottoms)
        row = row + (h, h - sum(row, S(0)))
        moves = tuple((row[state:] + row[:state], row[::-1], (S(1, 7),) + (0,) * 3 + (S(6, 7),)) for state in range(5))
        menu = Menu(moves, ("a", "a", "a", "a", "b"))
        paper = challenge_paper(menu)
        self.judges(True, is_challenge_paper, menu, paper)
        self.judges(True, is_answer_paper, menu, answer_paper(menu, 0, 1))
        self.assertEqual(duel_distance(menu, 0, 1), paper[(0, 1)][0])

    def test_no_state(self):
        for thing in odd_objects() + [3, -1, S(0)]:
            self.refuses(NoState, {"state": thing}, duel_distance, MENU, thing, 0)
            self.refuses(NoState, {"state": thing}, duel_distance, MENU, 0, thing)
            self.refuses(NoState, {"state": thing}, duel_distance, MENU, thing, None)
        self.refuses(NoState, {"state": 7}, duel_distance, MENU, 7, 8)


class BestTest(Case):

    def are_challenges(self, menu, found):
        self.assertIs(type(found), dict)
        self.assertEqual(list(found), like_pairs(menu))
        for (s, t), challenge in found.items():
            self.assertIn(challenge, challenges_of(menu, s, t))
            self.assertEqual([type(part) for part in challenge], [int, int])

    def are_answers(self, menu, found):
        self.assertIs(type(found), dict)
        self.assertEqual(list(found), [
            (s, t) + challenge for s, t in like_pairs(menu) for challenge in challenges_of(menu, s, t)
        ])
        for option, plan in found.values():
            self.assertIs(type(option), int)
            self.assertEqual(list(plan), sorted(plan))
            self.are_shares(plan.values())

    def test_no_answers_do_better_than_the_distance_allows(self):
        draw = source(251)
        for menu in mixed(252, 12) + DUELS:
            found, best = duel_distances(menu), best_challenges(menu)
            self.are_challenges(menu, best)
            for answers in [best_answers(menu)] + [some_answers(draw, menu) for _ in range(6)]:
                for s, t in all_pairs(menu):
                    self.assertFalse(duel_share(menu, best, answers, s, t).less(found[(s, t)]))

    def test_no_challenges_do_better_than_the_distance_allows(self):
        draw = source(253)
        for menu in mixed(254, 12) + DUELS:
            found, best = duel_distances(menu), best_answers(menu)
            self.are_answers(menu, best)
            for challenges in [best_challenges(menu)] + [some_challenges(draw, menu) for _ in range(6)]:
                for s, t in all_pairs(menu):
                    self.assertFalse(found[(s, t)].less(duel_share(menu, challenges, best, s, t)))

    def test_both_at_their_best(self):
        for menu in mixed(255, 12) + DUELS:
            found, challenges, answers = duel_distances(menu), best_challenges(menu), best_answers(menu)
            for s, t in all_pairs(menu):
                self.assertEqual(duel_share(menu, challenges, answers, s, t), found[(s, t)])

    def test_all_challenges_and_answers_tried_out(self):
        for menu in DUELS[:1] + DUELS[2:] + [PUTS_OFF]:
            found = duel_distances(menu)
            calls = {pair: challenges_of(menu, *pair) for pair in like_pairs(menu)}
            replies = {
                pair + challenge: corner_answers(menu, *pair, challenge)
                for pair in calls for challenge in calls[pair]
            }
            for chosen in itertools.product(*calls.values()):
                share = duel_share(menu, dict(zip(calls, chosen)), best_answers(menu), 0, 1)
                self.assertFalse(found[(0, 1)].less(share))
            challenges = best_challenges(menu)
            asked = [pair + challenges[pair] for pair in calls]
            rest = {call: told[0] for call, told in replies.items()}
            for chosen in itertools.product(*[replies[call] for call in asked]):
                answers = {**rest, **dict(zip(asked, chosen))}
                self.assertFalse(duel_share(menu, challenges, answers, 0, 1).less(found[(0, 1)]))

    def test_states_that_are_equal(self):
        # At (0, 0) of SURE the answerer loses if it does not do what the challenger names.
        answers = best_answers(SURE)
        for option in (0, 1):
            self.assertEqual(answers[(0, 0, 0, option)], (option, {(2 * option, 2 * option): 1}))
            self.assertEqual(answers[(0, 0, 1, option)], (option, {(2 * option, 2 * option): 1}))

    def test_a_chain_that_is_long(self):
        rows = tuple(tuple(S(int(to == state), 2) + S(int(to == (state + 1) % 5), 2) for to in range(5))
                     for state in range(5))
        chain = Chain(rows, ("a", "a", "a", "a", "b"))
        found = duel_distances(single(chain))
        self.assertEqual(found, distances(chain))
        answers, challenges = best_answers(single(chain)), best_challenges(single(chain))
        self.assertEqual(duel_share(single(chain), challenges, answers, 0, 2), found[(0, 2)])


if __name__ == "__main__":
    unittest.main()
