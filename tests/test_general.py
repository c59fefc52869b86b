"""[0.3] to [0.5]: arguments stay as they are, what is returned is new, equal arguments give equal answers."""

import copy
import unittest

from bothwalks.amounts import amounts, cheapest
from bothwalks.below import below_ties, fall_paper, is_below_ties, is_fall_paper, kept_below, rising
from bothwalks.both import Both, tried, walked
from bothwalks.bounds import worth_bounds
from bothwalks.carrying import carry, is_plan, is_prices, plan_cost, worth
from bothwalks.chains import Chain, beside, onto, product
from bothwalks.choices import Choices, best_way, best_worths, is_best_worths, way_chain, worths
from bothwalks.draws import Draw, free_draw, is_draw_of, same_draw
from bothwalks.duelling import Duel, duel_share, won_within
from bothwalks.duelpapers import answer_paper, challenge_paper, is_answer_paper, is_challenge_paper
from bothwalks.duels import best_answers, best_challenges, duel_distance, duel_distances
from bothwalks.equations import solve
from bothwalks.gathering import gather_mean, gather_shares, gather_word, is_stuck, stuck
from bothwalks.keepers import Keeper
from bothwalks.lumps import is_lumping, lumped, lumps
from bothwalks.meeting import never_meet, soonest, soonest_ties
from bothwalks.menulumps import is_menu_lumping, menu_lumps
from bothwalks.menus import Menu, single
from bothwalks.near import best_ties, distance, distances
from bothwalks.orders import Order, line, under, up_sets
from bothwalks.papers import far_paper, is_far_paper, is_near_paper, near_paper
from bothwalks.risingdraws import is_rising_weights, rising_draw
from bothwalks.seen import gap_rows, greatest_gap, likeliest, seen_at, seen_share, unlike_seen
from bothwalks.shares import Share, pick
from bothwalks.texts import read, read_ties, written, written_ties
from bothwalks.ties import close_ties, free_ties, is_ties, tied_after, tied_differ, tied_mean
from bothwalks.waiting import is_meeting_paper, is_waiting_paper, meeting_paper, waiting_paper
from bothwalks.walking import after, apart, closed_parts, ends, is_rest, mean_steps, period, reached, rest
from bothwalks.within import met_within
from tests.helpers import Case, S, drawn_chain, drawn_choices, drawn_menu, h, source
from tests.test_chains import COIN, SWAP, THREE


def shown(thing):
    """A text of all that a thing holds, shares told from integers and dicts in their order."""
    if isinstance(thing, Share):
        return f"Share {thing.top} {thing.bottom}"
    if isinstance(thing, Chain):
        rows = [thing.row(state) for state in range(thing.size)]
        return f"Chain {shown(rows)} {[thing.label(state) for state in range(thing.size)]}"
    if isinstance(thing, Order):
        return f"Order {thing.size} {thing.pairs()}"
    if isinstance(thing, Draw):
        return f"Draw {thing.size} {shown(thing.parts)}"
    if isinstance(thing, Menu):
        spreads = [[thing.spread(state, at) for at in range(thing.options(state))] for state in range(thing.size)]
        return f"Menu {shown(spreads)} {[thing.label(state) for state in range(thing.size)]}"
    if isinstance(thing, Choices):
        told = [[(name, thing.pay(state, name), thing.row(state, name)) for name in thing.names(state)]
                for state in range(thing.size)]
        return f"Choices {shown(told)} {shown(thing.factor)}"
    if isinstance(thing, Keeper):
        return f"Keeper {shown(thing.chain)} {shown(thing.papers())}"
    if isinstance(thing, Both):
        return f"Both {thing.places} {thing.steps} {thing.met} {thing.trial([h] * 6)}"
    if isinstance(thing, Duel):
        return f"Duel {thing.places} {thing.steps} {thing.ended}"
    if isinstance(thing, dict):
        return "{" + ", ".join(f"{shown(key)}: {shown(part)}" for key, part in thing.items()) + "}"
    if isinstance(thing, (list, tuple)):
        return f"{type(thing).__name__}({', '.join(shown(part) for part in thing)})"
    return f"{type(thing).__name__} {thing!r}"


def spoil(thing):
    """Change each list and dict in what was returned."""
    if isinstance(thing, dict):
        for part in list(thing.values()):
            spoil(part)
        thing["spoilt"] = 1
    elif isinstance(thing, list):
        for part in thing:
            spoil(part)
        thing.append("spoilt")
    elif isinstance(thing, tuple):
        for part in thing:
            spoil(part)


def share_calls():
    """Calls of the functions with right arguments."""
    costs = {(1, 1): 0, (0, 1): S(1, 3), (1, 0): 2, (0, 0): S(1, 5)}
    plan = {(1, 0): S(1, 4), (0, 0): S(1, 4), (1, 1): h}
    p, q = (S(1, 4), S(3, 4)), (h, h)
    rows = ((1, 2, 3), (0, h, 1))
    return [
        (pick, ((h, h), S(3, 4))), (solve, (rows, (1, 2))), (solve, (((1, 1), (2, 2)), (1, 3))),
        (solve, (((1, 1), (1, -1)), (3, 1))), (amounts, (rows, (4, 1))), (amounts, (rows, (-1, 1))),
        (cheapest, (rows, (4, 1), (1, 1, 1))), (cheapest, (((1, -1),), (0,), (-1, 0))),
        (carry, (p, q, costs)), (is_plan, (p, q, plan)), (is_prices, (costs, ((0, 0), (0, 0)))),
        (plan_cost, (costs, plan)), (worth, (p, q, ((1, 2), (3, 4)))),
    ]


def chain_calls():
    """Calls of the functions over chains with right arguments."""
    ties = {(1, 0): {(1, 0): h, (0, 1): h}, (0, 1): {(1, 1): h, (0, 0): h}}
    chain = drawn_chain(source(71), 4)
    found = [
        (beside, (COIN, SWAP)), (product, (COIN, SWAP)), (onto, (THREE, (2, 1))), (after, (COIN, (1, 0), 3)),
        (apart, ((1, 0), (h, h))), (period, (COIN, 0)), (rest, (COIN, 0)), (is_rest, (COIN, (h, h))),
        (mean_steps, (COIN, 0, (1,))), (is_lumping, (SWAP, [(1,), (0,)])), (is_ties, (COIN, ties)),
        (tied_after, (COIN, ties, 1, 0, 4)), (tied_mean, (COIN, ties, 1, 0)), (tied_differ, (COIN, ties, 1, 0)),
        (tied_after, (chain, close_ties(chain), 2, 0, 4)),
    ]
    for each in (THREE, SWAP, COIN, chain):
        found += [(call, (each,)) for call in (closed_parts, lumps, lumped, free_ties, close_ties)]
        found += [(call, (each, 0)) for call in (reached, ends)]
        found += [(call, (each, 0, ("a", None, "b"))) for call in (seen_share, seen_at, likeliest)]
        found += [(unlike_seen, (each, 0, 1)), (greatest_gap, (each, 0, 1, 2)), (gap_rows, (each, 0, 1, 2))]
    return found


def both_calls():
    """Calls of the functions for near and far and for meeting with right arguments."""
    found = [(meeting_paper, (COIN, 0, 1)), (waiting_paper, (COIN,)), (far_paper, (COIN,))]
    for each in (THREE, SWAP, COIN, drawn_chain(source(73), 4), drawn_chain(source(74), 5, "aab")):
        found += [(call, (each,)) for call in (distances, best_ties, far_paper, soonest, soonest_ties, never_meet)]
        found += [(distance, (each, 0, 1)), (near_paper, (each, 0, 1)), (met_within, (each, 0, 1, 3))]
        found += [(is_near_paper, (each, near_paper(each, 1, 0))), (is_far_paper, (each, far_paper(each)))]
    turned = {pair: told for pair, told in reversed(list(waiting_paper(COIN).items()))}
    return found + [(is_meeting_paper, (COIN, meeting_paper(COIN, 1, 0))), (is_waiting_paper, (COIN, turned))]


def order_calls():
    """Calls of the functions for orders and draws with right arguments."""
    chain = drawn_chain(source(75), 4)
    free, same = free_draw(THREE), same_draw(chain)
    found = [
        (Order, (3, [(0, 1), (2, 2)])), (line, (4,)), (rising, (SWAP, line(2))), (rising_draw, (SWAP, line(2))),
        (is_rising_weights, (SWAP, line(2), rising_draw(SWAP, line(2))[1])), (rising_draw, (COIN, line(2))),
        (is_draw_of, (COIN, same_draw(COIN))), (is_stuck, (same_draw(SWAP), ((1, 0),))), (free_draw, (COIN,)),
        (Draw, (((h, (1, 0)), (h, (0, 0))),)), (gather_shares, (free, 4)), (gather_mean, (same_draw(COIN),)),
    ]
    for order in (line(4), Order(4, [(2, 0), (2, 1)])):
        found += [(up_sets, (order,)), (under, (order, chain.row(0), chain.row(1))), (Order.pairs, (order,))]
        found += [(under, (order, (1, 0, 0, 0), (0, 0, 0, 1))), (Order.turned, (order,)), (rising, (chain, order))]
        found += [(call, (order, chain, chain)) for call in (kept_below, below_ties, fall_paper)]
        found += [(is_below_ties, (order, chain, chain, below_ties(order, chain, chain)))]
        found += [(is_fall_paper, (order, chain, chain, fall_paper(order, chain, chain)))]
        found += [(rising_draw, (chain, order))]
    for draw in (free, same):
        found += [(call, (draw,)) for call in (Draw.rows, Draw.ties, gather_word, stuck, gather_mean)]
    return found + [(same_draw, (chain,)), (gather_shares, (same, 8))]


def choice_calls():
    """Calls of the functions for choices, for texts, and for walking by shares with right arguments."""
    choices = drawn_choices(source(76), 4)
    way = best_way(choices)
    ties = close_ties(THREE)
    turned = {pair: dict(reversed(list(ties[pair].items()))) for pair in reversed(list(ties))}
    return [
        (worths, (choices, way)), (best_worths, (choices,)), (best_way, (choices,)), (worth_bounds, (choices,)),
        (is_best_worths, (choices, best_worths(choices))), (way_chain, (choices, way, ("a", "b", "c", "a"))),
        (Choices.names, (choices, 1)), (Choices.row, (choices, 1, way[1])), (written, (THREE,)),
        (written_ties, (THREE, turned)), (read, (written(THREE),)), (read_ties, (THREE, written_ties(THREE, ties))),
        (Choices, (((("b", 1, (1,)), ("a", 0, (1,))),), h)), (Both, (THREE, turned, 0, 1)),
        (Both.trial, (Both(THREE, ties, 0, 1), [h, 0])), (tried, (Both(THREE, turned, 0, 1), [h, S(1, 4)])),
        (lambda *given: list(walked(*given)), (THREE, 0, [h, 0])), (Keeper, (THREE,)),
        (Keeper.papers, (kept_papers(),)),
    ]


def kept_papers():
    """A keeper with papers."""
    keeper = Keeper(THREE)
    paper = near_paper(THREE, 0, 1)
    keeper.keep({pair: paper[pair] for pair in reversed(list(paper))})
    keeper.keep({})
    return keeper


def duel_calls():
    """Calls of the functions over menus with right arguments."""
    found = [(single, (THREE,)), (Menu, ((((1, 0), (h, h)), ((0, 1),)), ("a", "b")))]
    for menu in (drawn_menu(source(77), 4, "aab"), drawn_menu(source(78), 3, "aab"), single(THREE)):
        challenges, answers = best_challenges(menu), best_answers(menu)
        turned = {call: answers[call] for call in reversed(list(answers))}
        found += [(call, (menu,)) for call in (
            menu_lumps, duel_distances, best_challenges, best_answers, challenge_paper,
        )]
        found += [
            (is_menu_lumping, (menu, menu_lumps(menu))), (duel_distance, (menu, 0, 1)), (answer_paper, (menu, 0, 1)),
            (is_answer_paper, (menu, answer_paper(menu, 1, 0))), (is_challenge_paper, (menu, challenge_paper(menu))),
            (duel_share, (menu, challenges, turned, 0, 1)), (won_within, (menu, challenges, turned, 0, 1, 5)),
            (Duel, (menu, turned, 0, 0)), (Menu.followed, (menu, (0,) * menu.size)),
        ]
    return found


def calls():
    return share_calls() + chain_calls() + both_calls() + order_calls() + choice_calls() + duel_calls()


class GeneralTest(Case):

    def test_arguments_stay_as_they_are(self):
        for call, given in calls():
            before = shown(given)
            call(*given)
            self.assertEqual(shown(given), before, call.__name__)

    def test_equal_arguments_give_equal_answers(self):
        for call, given in calls():
            answer = shown(call(*given))
            self.assertEqual(shown(call(*given)), answer, call.__name__)
            self.assertEqual(shown(call(*copy.deepcopy(given))), answer, call.__name__)

    def test_lists_and_dicts_that_are_returned_are_new(self):
        for call, given in calls():
            before = shown(given)
            answer = call(*given)
            right = shown(answer)
            spoil(answer)
            self.assertEqual(shown(given), before, call.__name__)
            self.assertEqual(shown(call(*given)), right, call.__name__)

    def test_orders_and_draws_never_change(self):
        order, draw = Order(3, [(0, 1)]), same_draw(THREE)
        before = shown([order, draw])
        for spoilt in (order.pairs(), up_sets(order), draw.ties(), under(order, (1, 0, 0), (0, 1, 0))):
            spoil(spoilt)
        order.turned()
        with self.assertRaises(ValueError):
            order.below(0, 3)
        self.assertEqual(shown([order, draw]), before)

    def test_keys_that_are_returned_ascend(self):
        def look(thing):
            if isinstance(thing, dict):
                self.assertEqual(list(thing), sorted(thing))
                thing = list(thing.values())
            if isinstance(thing, (list, tuple)):
                for part in thing:
                    look(part)
        for call, given in calls():
            look(call(*given))

    def test_what_was_returned_may_be_passed_on_whatever_its_size(self):
        long = S(1, 3)
        for _ in range(8):
            long = long * long + S(1, 7)
        self.assertGreater(long.bottom, 10 ** 100)
        self.assertEqual(solve(((long,),), (1,)), ("one", (S(1).over(long),)))
        p = (long.over(2), 1 - long.over(2))
        self.assertEqual(carry(p, (0, 1), {(0, 0): 0, (0, 1): long, (1, 0): 0, (1, 1): 0})[0], p[0] * long)

    def test_chains_of_long_shares(self):
        row = after(drawn_chain(source(72), 3, zeros=0), (1, 0, 0), 60)
        self.assertGreater(row[0].bottom, 10 ** 40)
        chain = Chain((row, tuple(reversed(row)), (h, 0, h)), ("a", "a", "b"))
        ties = close_ties(chain)
        self.judges(True, is_ties, chain, ties)
        self.judges(True, is_rest, chain, rest(chain, 0))
        self.assertEqual(apart(chain.row(0), chain.row(1)), 1 - sum(
            [share for pair, share in ties[(0, 1)].items() if pair[0] == pair[1]], S(0)))
        self.assertEqual(sum(list(tied_after(chain, ties, 0, 1, 30).values()), S(0)), 1)
        self.is_share(tied_mean(chain, ties, 0, 2))

    def test_machines_with_choices_and_menus_never_change(self):
        choices, menu = drawn_choices(source(79), 3), drawn_menu(source(80), 3)
        before = shown([choices, menu])
        for call, given in choice_calls() + duel_calls():
            call(*given)
        for call, given in (
            (worths, (choices, (1, 2, 3))), (menu.spread, (0, 9)), (menu.followed, ((0, 9, 0),)),
            (choices.pay, (0, "none")), (duel_distance, (menu, 0, 3)), (answer_paper, (menu, 3, 0)),
        ):
            with self.assertRaises(ValueError):
                call(*given)
        for machine in (choices, menu):
            for call in (best_worths, worth_bounds) if machine is choices else (best_answers, challenge_paper):
                spoil(call(machine))
        self.assertEqual(shown([choices, menu]), before)

    def test_chains_never_change(self):
        rows, labels = ((h, h), (0, 1)), ("a", "b")
        chain = Chain(rows, labels)
        before = shown(chain)
        chain.with_row(0, (1, 0))
        chain.with_label(1, "c")
        for call, given in ((beside, (chain, chain)), (product, (chain, chain)), (lumped, (chain,))):
            call(*given)
        for wrong in ((0, (1,)), (0, None), (5, (1, 0))):
            with self.assertRaises(ValueError):
                chain.with_row(*wrong)
        self.assertEqual(shown(chain), before)


if __name__ == "__main__":
    unittest.main()
