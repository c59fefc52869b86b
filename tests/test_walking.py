"""[4.3] to [4.5]: one walk of a chain."""

import unittest
from fractions import Fraction
from math import gcd

from bothwalks.chains import Chain, beside
from bothwalks.errors import BadSpread, BadStates, BadSteps, NoState, NotClosed
from bothwalks.walking import after, apart, closed_parts, ends, is_rest, mean_steps, period, reached, rest
from tests.helpers import Case, S, drawn_chain, drawn_spread, fraction, fractions, h, odd_objects, source
from tests.test_chains import COIN, SWAP, THREE, one_state, ring


def stepped(chain, spread):
    """The spread a step later, in fractions."""
    return [
        sum(fraction(spread[state]) * fraction(chain.row(state)[to]) for state in range(chain.size))
        for to in range(chain.size)
    ]


def ways(chain):
    """For each state the set of the states that can come in 0 or more steps, by steps to all neighbours."""
    found = [{state} for state in range(chain.size)]
    for _ in range(chain.size):
        found = [
            states | {to for state in states for to in range(chain.size) if chain.row(state)[to] != 0}
            for states in found
        ]
    return found


def right_parts(chain):
    found = ways(chain)
    return sorted({
        tuple(sorted(states)) for states in found if all(found[other] == states for other in states)
    })


def drawn_chains(seed, many):
    draw = source(seed)
    return [drawn_chain(draw, draw.randint(1, 6), zeros=draw.choice([0.3, 0.6, 0.8])) for _ in range(many)]


GAMBLE = Chain(((1, 0, 0, 0), (h, 0, h, 0), (0, h, 0, h), (0, 0, 0, 1)), ("a", "b", "b", "c"))


class AfterTest(Case):

    def test_steps(self):
        self.assertEqual(after(THREE, (1, 0, 0), 1), (0, h, h))
        self.assertEqual(after(SWAP, (1, 0), 59), (0, 1))
        self.assertEqual(after(SWAP, (1, 0), 60), (1, 0))
        self.assertEqual(after(SWAP, (S(1, 3), S(2, 3)), 3), (S(2, 3), S(1, 3)))
        self.assertEqual(after(one_state(), (1,), 7), (1,))
        self.assertEqual(after(GAMBLE, (0, 1, 0, 0), 2), (h, S(1, 4), 0, S(1, 4)))

    def test_no_step(self):
        for spread in ((1, 0), (h, h), (S(0), S(1))):
            self.assertEqual(after(SWAP, spread, 0), spread)

    def test_drawn_chains(self):
        draw = source(31)
        for chain in drawn_chains(32, 30):
            spread = drawn_spread(draw, chain.size)
            now = fractions(spread)
            for steps in range(6):
                answer = after(chain, spread, steps)
                self.assertIs(type(answer), tuple)
                self.are_shares(answer)
                self.assertEqual(fractions(answer), now)
                now = stepped(chain, now)

    def test_60_steps(self):
        chain = drawn_chains(33, 1)[0]
        one = after(chain, (1,) + (0,) * (chain.size - 1), 60)
        half = after(chain, after(chain, (1,) + (0,) * (chain.size - 1), 23), 37)
        self.assertEqual(one, half)
        self.assertEqual(sum(fractions(one)), 1)

    def test_bad_spread(self):
        for thing in odd_objects() + [(1,), (1, 0, 0), [1, 0], (h, S(1, 3)), (2, -1), (True, 0), (False, 1)]:
            self.refuses(BadSpread, {"part": "spread"}, after, COIN, thing, 1)
            self.refuses(BadSpread, {"part": "spread"}, after, COIN, thing, None)

    def test_bad_steps(self):
        for thing in odd_objects() + [61, -1, S(3), S(0), "1", (1,)]:
            self.refuses(BadSteps, {"steps": thing}, after, COIN, (1, 0), thing)


class ReachedTest(Case):

    def test_states_ahead(self):
        self.assertEqual(reached(THREE, 0), [0, 1, 2])
        self.assertEqual(reached(THREE, 1), [1])
        self.assertEqual(reached(GAMBLE, 2), [0, 1, 2, 3])
        self.assertEqual(reached(ring(8), 5), list(range(8)))
        self.assertEqual(reached(one_state(), 0), [0])
        self.assertEqual(reached(beside(ring(2), ring(3)), 3), [2, 3, 4])
        # The state itself is there in 0 steps, also if no walk comes back to it.
        self.assertEqual(reached(Chain(((0, 1), (0, 1)), ("a", "a")), 0), [0, 1])

    def test_drawn_chains(self):
        for chain in drawn_chains(34, 40):
            for state, states in enumerate(ways(chain)):
                self.assertEqual(reached(chain, state), sorted(states))

    def test_no_state(self):
        for thing in odd_objects() + [3, S(0)]:
            self.refuses(NoState, {"state": thing}, reached, THREE, thing)


class ApartTest(Case):

    def test_apart(self):
        for p, q, right in (
            ((1,), (1,), 0), ((1, 0), (0, 1), 1), ((h, h), (1, 0), h), ((h, h), (h, h), 0),
            ((S(1, 3), S(1, 3), S(1, 3)), (1, 0, 0), S(2, 3)), ((S(1, 2), S(1, 3), S(1, 6)), (S(1, 3), h, S(1, 6)), S(1, 6)),
            ((S(1, 20),) * 20, (1,) + (0,) * 19, S(19, 20)),
        ):
            for one, other in ((p, q), (q, p)):
                self.is_share(apart(one, other))
                self.assertEqual(apart(one, other), right)

    def test_bad_spreads(self):
        for thing in odd_objects() + [(), [1, 0], (h, S(1, 3)), (True,), (2, -1)]:
            self.refuses(BadSpread, {"part": "p"}, apart, thing, (h, h))
            self.refuses(BadSpread, {"part": "p"}, apart, thing, thing)
            self.refuses(BadSpread, {"part": "q"}, apart, (h, h), thing)
        for thing in ((1,), (1, 0, 0)):
            self.refuses(BadSpread, {"part": "q"}, apart, (h, h), thing)


class PartsTest(Case):

    def test_closed_parts(self):
        self.assertEqual(closed_parts(THREE), [(1,), (2,)])
        self.assertEqual(closed_parts(SWAP), [(0, 1)])
        self.assertEqual(closed_parts(one_state()), [(0,)])
        self.assertEqual(closed_parts(ring(8)), [tuple(range(8))])
        self.assertEqual(closed_parts(GAMBLE), [(0,), (3,)])
        self.assertEqual(closed_parts(beside(GAMBLE, ring(3))), [(0,), (3,), (4, 5, 6)])
        # Two parts that interlace, and a state that leads to one of them.
        rows = ((0, 0, 1, 0, 0), (0, 0, 0, 1, 0), (1, 0, 0, 0, 0), (0, 1, 0, 0, 0), (0, h, 0, 0, h))
        self.assertEqual(closed_parts(Chain(rows, ("a",) * 5)), [(0, 2), (1, 3)])

    def test_drawn_chains(self):
        for chain in drawn_chains(35, 60):
            self.assertEqual(closed_parts(chain), right_parts(chain))

    def test_period(self):
        for many in range(1, 9):
            self.assertEqual(period(ring(many), many - 1), many)
        self.assertEqual(period(COIN, 0), 1)
        self.assertEqual(period(SWAP, 1), 2)
        self.assertEqual(period(THREE, 2), 1)
        # Rings of 4 and of 6 through one state, and one of 2 and 3.
        rows = tuple(
            tuple(S(1, len(tos)) if to in tos else 0 for to in range(8))
            for tos in ((1, 4), (2,), (3,), (0,), (5,), (6,), (7,), (3,))
        )
        self.assertEqual(period(Chain(rows, ("a",) * 8), 5), 2)
        rows = ((0, h, h), (1, 0, 0), (0, 1, 0))
        self.assertEqual(period(Chain(rows, ("a",) * 3), 2), 1)

    def test_periods_of_drawn_chains(self):
        for chain in drawn_chains(36, 60):
            for part in closed_parts(chain):
                for state in part:
                    now = {state}
                    common = 0
                    for steps in range(1, 60):
                        now = {to for place in now for to in range(chain.size) if chain.row(place)[to] != 0}
                        if state in now:
                            common = gcd(common, steps)
                    self.assertEqual(period(chain, state), common)

    def test_errors(self):
        for call in (period, rest):
            for thing in odd_objects() + [3, -1, S(1)]:
                self.refuses(NoState, {"state": thing}, call, THREE, thing)
            self.refuses(NotClosed, {"state": 0}, call, THREE, 0)
            self.refuses(NotClosed, {"state": 2}, call, GAMBLE, 2)
        for thing in odd_objects():
            self.refuses(NoState, {"state": thing}, ends, THREE, thing)
            self.refuses(NoState, {"state": thing}, mean_steps, THREE, thing, None)


class RestTest(Case):

    def test_rest(self):
        self.assertEqual(rest(COIN, 0), (h, h))
        self.assertEqual(rest(SWAP, 1), (h, h))
        self.assertEqual(rest(THREE, 1), (0, 1, 0))
        self.assertEqual(rest(THREE, 2), (0, 0, 1))
        self.assertEqual(rest(one_state(), 0), (1,))
        self.assertEqual(rest(ring(8), 3), (S(1, 8),) * 8)
        chain = Chain(((h, h, 0), (S(1, 3), S(2, 3), 0), (0, h, h)), ("a", "a", "a"))
        self.assertEqual(rest(chain, 1), (S(2, 5), S(3, 5), 0))

    def test_drawn_chains(self):
        for chain in drawn_chains(37, 60):
            for part in closed_parts(chain):
                for state in part:
                    spread = rest(chain, state)
                    self.assertIs(type(spread), tuple)
                    self.are_shares(spread)
                    self.assertEqual(stepped(chain, spread), fractions(spread))
                    self.assertEqual(sum(fractions(spread)), 1)
                    self.assertTrue(all((spread[at] != 0) == (at in part) for at in range(chain.size)))
                    self.judges(True, is_rest, chain, spread)

    def test_is_rest(self):
        for chain, thing in (
            (THREE, (0, 1, 0)), (THREE, (0, S(1, 3), S(2, 3))), (SWAP, (h, h)), (one_state(), (1,)), (one_state(), (S(1),)),
            (GAMBLE, (h, 0, 0, h)),
        ):
            self.judges(True, is_rest, chain, thing)
        for chain, thing in (
            (THREE, (1, 0, 0)), (THREE, (h, h, 0)), (SWAP, (1, 0)), (SWAP, (S(1, 3), S(2, 3))), (SWAP, [h, h]),
            (beside(SWAP, one_state()), (h, 0, h)), (beside(one_state(), SWAP), (h, h, 0)), (THREE, (S(1, 3), S(2, 3), 0)),
            (SWAP, (1, 1)), (SWAP, (0, 0)), (SWAP, (h, h, 0)), (one_state(), (True,)), (THREE, (0, 2, -1)),
        ):
            self.judges(False, is_rest, chain, thing)
        for thing in odd_objects():
            self.judges(False, is_rest, COIN, thing)
            self.judges(False, is_rest, one_state(), thing)
            self.judges(False, is_rest, one_state(), (thing,))


class EndsTest(Case):

    def test_ends(self):
        self.assertEqual(ends(THREE, 0), {(1,): h, (2,): h})
        self.assertEqual(ends(THREE, 1), {(1,): 1, (2,): 0})
        self.assertEqual(ends(GAMBLE, 1), {(0,): S(2, 3), (3,): S(1, 3)})
        self.assertEqual(ends(GAMBLE, 3), {(0,): 0, (3,): 1})
        self.assertEqual(ends(ring(5), 2), {(0, 1, 2, 3, 4): 1})
        self.assertEqual(ends(beside(THREE, COIN), 0), {(1,): h, (2,): h, (3, 4): 0})

    def test_drawn_chains(self):
        for chain in drawn_chains(38, 60):
            parts = closed_parts(chain)
            found = [ends(chain, state) for state in range(chain.size)]
            for state, shares in enumerate(found):
                self.assertEqual(list(shares), parts)
                self.are_shares(shares.values())
                self.assertEqual(sum(fractions(shares.values())), 1)
                for part in parts:
                    if any(state in other for other in parts):
                        self.assertEqual(shares[part], int(state in part))
                    else:
                        steps = [
                            fraction(chain.row(state)[to]) * fraction(found[to][part]) for to in range(chain.size)
                        ]
                        self.assertEqual(fraction(shares[part]), sum(steps))


class MeanStepsTest(Case):

    def test_mean_steps(self):
        self.assertEqual(mean_steps(COIN, 0, (1,)), 2)
        self.assertEqual(mean_steps(COIN, 0, (0,)), 0)
        self.assertEqual(mean_steps(COIN, 0, (1, 0)), 0)
        self.assertEqual(mean_steps(GAMBLE, 1, (0, 3)), 2)
        self.assertEqual(mean_steps(ring(8), 1, (0,)), 7)
        self.assertEqual(mean_steps(ring(8), 1, (0, 4)), 3)
        chain = Chain(((S(2, 3), S(1, 3), 0), (0, S(3, 4), S(1, 4)), (0, 0, 1)), ("a", "a", "a"))
        self.assertEqual(mean_steps(chain, 0, (2,)), 7)
        for thing in (mean_steps(COIN, 0, (1,)), mean_steps(COIN, 0, (0,))):
            self.is_share(thing)

    def test_none_if_it_is_not_sure(self):
        self.assertIs(mean_steps(THREE, 0, (1,)), None)
        self.assertIs(mean_steps(THREE, 1, (0,)), None)
        self.assertIs(mean_steps(GAMBLE, 1, (3,)), None)
        self.assertIs(mean_steps(beside(COIN, COIN), 0, (2, 3)), None)
        # What may go wrong lies behind the goal only.
        self.assertEqual(mean_steps(Chain(((0, 1, 0), (0, 0, 1), (0, 0, 1)), ("a",) * 3), 0, (1,)), 1)

    def test_drawn_chains(self):
        draw = source(39)
        for chain in drawn_chains(40, 80):
            goals = tuple(draw.sample(range(chain.size), draw.randint(1, min(2, chain.size))))
            rows = tuple(
                tuple(int(to == state) for to in range(chain.size)) if state in goals else chain.row(state)
                for state in range(chain.size)
            )
            stopped = Chain(rows, ("a",) * chain.size)
            found = [mean_steps(chain, state, goals) for state in range(chain.size)]
            for state, states in enumerate(ways(stopped)):
                sure = all(ways(stopped)[other].intersection(goals) for other in states)
                self.assertIs(found[state] is not None, sure)
                if state in goals:
                    self.assertEqual(found[state], 0)
                elif sure:
                    self.is_share(found[state])
                    later = sum(
                        [fraction(chain.row(state)[to]) * fraction(found[to])
                         for to in range(chain.size) if chain.row(state)[to] != 0], Fraction(1))
                    self.assertEqual(fraction(found[state]), later)

    def test_bad_states(self):
        for thing in odd_objects() + [(), [1], (1, 1), (0, 1, 0), (3,), (-1,), (True,), (S(1),), {1: 1}, 1, (1, None)]:
            self.refuses(BadStates, {}, mean_steps, THREE, 0, thing)
            self.refuses(NoState, {"state": 3}, mean_steps, THREE, 3, thing)


if __name__ == "__main__":
    unittest.main()
