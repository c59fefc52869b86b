"""[12.1]: meeting within so many steps."""

import unittest
from fractions import Fraction

from bothwalks.chains import Chain
from bothwalks.errors import BadSteps, NoState, TooMany
from bothwalks.ties import close_ties, free_ties, tied_after
from bothwalks.walking import after, apart
from bothwalks.within import met_within
from tests.helpers import Case, S, all_pairs, corner_plans, drawn_chain, fraction, h, odd_objects, source
from tests.test_chains import COIN, SWAP, THREE, one_state, ring


def begin(chain, state):
    return tuple(int(at == state) for at in range(chain.size))


def greatest(chain, most):
    """For each number of steps up to the most, the greatest shares, by a look at all corner plans."""
    plans = {(s, t): corner_plans(chain.row(s), chain.row(t)) for s, t in all_pairs(chain) if s != t}
    found = [{(s, t): Fraction(int(s == t)) for s, t in all_pairs(chain)}]
    for _ in range(most):
        last = found[-1]
        found.append({pair: Fraction(1) if pair not in plans else max(
            sum(fraction(amount) * last[to] for to, amount in plan.items()) for plan in plans[pair]
        ) for pair in last})
    return found


class MetWithinTest(Case):

    def test_met_within(self):
        for chain, s, t, n, share in (
            (COIN, 0, 1, 0, 0), (COIN, 0, 1, 1, 1), (COIN, 0, 0, 0, 1), (COIN, 1, 1, 5, 1), (SWAP, 0, 1, 5, 0),
            (SWAP, 1, 1, 5, 1), (one_state(), 0, 0, 0, 1), (one_state(), 0, 0, 5, 1), (ring(5), 0, 3, 5, 0),
            (THREE, 0, 1, 0, 0), (THREE, 0, 1, 1, h), (THREE, 0, 1, 5, h), (THREE, 1, 2, 5, 0),
        ):
            self.is_share(met_within(chain, s, t, n))
            self.assertEqual(met_within(chain, s, t, n), share)

    def test_by_a_look_at_all_corner_plans(self):
        draw = source(121)
        between = 0
        for _ in range(14):
            chain = drawn_chain(draw, draw.choice([2, 3, 3, 4]), "ab", draw.choice([0.4, 0.6]))
            for n, shares in enumerate(greatest(chain, 5)):
                for s, t in all_pairs(chain):
                    self.assertEqual(fraction(met_within(chain, s, t, n)), shares[(s, t)])
                    between += 0 < shares[(s, t)] < 1
        self.assertGreater(between, 50)

    def test_no_ties_are_better(self):
        draw = source(122)
        for _ in range(6):
            chain = drawn_chain(draw, draw.choice([4, 5]), "ab", 0.3)
            for ties in (free_ties(chain), close_ties(chain)):
                for s, t in all_pairs(chain):
                    for n in (0, 1, 3):
                        together = tied_after(chain, ties, s, t, n)
                        met = sum([share for pair, share in together.items() if pair[0] == pair[1]], S(0))
                        self.assertFalse(met_within(chain, s, t, n).less(met))

    def test_what_is_apart_has_not_met(self):
        draw = source(123)
        less = 0
        for _ in range(12):
            chain = drawn_chain(draw, draw.choice([2, 3, 4, 5]), "ab", draw.choice([0.3, 0.6]))
            for s, t in all_pairs(chain):
                last = S(0)
                for n in range(6):
                    met = met_within(chain, s, t, n)
                    most = 1 - apart(after(chain, begin(chain, s), n), after(chain, begin(chain, t), n))
                    self.assertFalse(most.less(met))
                    self.assertFalse(met.less(last))
                    if n == 1:
                        self.assertEqual(met, most)
                    less += met.less(most)
                    last = met
        self.assertGreater(less, 0)

    def test_what_a_second_step_adds(self):
        # From 0 and 1, with one step left only 4 is worth it, with two left 2 and 3 are, too.
        chain = Chain((
            (0, 0, h, 0, h), (0, 0, 0, h, h), (0, 0, 0, 0, 1), (0, 0, 0, 0, 1), (0, 0, 0, 0, 1),
        ), ("a",) * 5)
        self.assertEqual(met_within(chain, 0, 1, 1), h)
        self.assertEqual(met_within(chain, 0, 1, 2), 1)

    def test_errors_in_turn(self):
        for thing in odd_objects() + [6, -1, S(3), "3", 10 ** 20]:
            self.refuses(BadSteps, {"steps": thing}, met_within, COIN, 0, 1, thing)
            self.refuses(BadSteps, {"steps": thing}, met_within, ring(5), 1, 1, thing)
        for thing in odd_objects() + [2, -1, S(0)]:
            for n in (0, 6, None):
                self.refuses(NoState, {"state": thing}, met_within, COIN, thing, 0, n)
                self.refuses(NoState, {"state": thing}, met_within, COIN, 0, thing, n)
                self.refuses(NoState, {"state": thing}, met_within, COIN, thing, 9, n)
                for many in (6, 8):
                    self.refuses(TooMany, {"limit": 5}, met_within, ring(many), thing, 0, n)
        self.refuses(TooMany, {"limit": 5}, met_within, ring(6), 0, 1, 1)


if __name__ == "__main__":
    unittest.main()
