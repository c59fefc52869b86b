"""[3.1] and [3.2]: carrying a spread to another one."""

import unittest

from bothwalks.amounts import cheapest
from bothwalks.carrying import carry, is_plan, is_prices, plan_cost, worth
from bothwalks.errors import BadCosts, BadSpread
from tests.helpers import Case, S, drawn_spread, fraction, h, odd_objects, source


def unlike_costs(many, cost=1):
    """0 for equal indexes and the cost for all others."""
    return {(i, j): 0 if i == j else cost for i in range(many) for j in range(many)}


def drawn_costs(draw, many, most=6, bottoms=3):
    return {
        (i, j): S(draw.randint(0, most), draw.randint(1, bottoms)) for i in range(many) for j in range(many)
    }


class CarryTest(Case):

    def fits(self, p, q, costs):
        """The answer of carry is a plan and prices that show each other's cost to be the best; the cost."""
        answer = carry(p, q, costs)
        self.assertIs(type(answer), tuple)
        cost, plan, prices = answer
        self.is_share(cost)
        many = range(len(p))
        self.assertIs(type(plan), dict)
        self.assertEqual(list(plan), sorted(plan))
        self.are_shares(plan.values())
        for (i, j), amount in plan.items():
            self.assertIn(i, many)
            self.assertIn(j, many)
            self.assertGreater(fraction(amount), 0)
        for at in many:
            self.assertEqual(sum(fraction(amount) for (i, j), amount in plan.items() if i == at), fraction(p[at]))
            self.assertEqual(sum(fraction(amount) for (i, j), amount in plan.items() if j == at), fraction(q[at]))
        self.assertIs(type(prices), tuple)
        u, v = prices
        for side in prices:
            self.assertIs(type(side), tuple)
            self.assertEqual(len(side), len(p))
            self.are_shares(side)
        for (i, j), most in costs.items():
            self.assertLessEqual(fraction(u[i]) + fraction(v[j]), fraction(most))
        paid = sum(fraction(amount) * fraction(costs[pair]) for pair, amount in plan.items())
        gained = sum(fraction(p[at]) * fraction(u[at]) + fraction(q[at]) * fraction(v[at]) for at in many)
        self.assertEqual(paid, fraction(cost))
        self.assertEqual(gained, fraction(cost))
        self.judges(True, is_plan, p, q, plan)
        self.judges(True, is_prices, costs, prices)
        for share in (plan_cost(costs, plan), worth(p, q, prices)):
            self.is_share(share)
            self.assertEqual(share, cost)
        return cost

    def test_least_costs(self):
        costs = {(0, 0): 0, (0, 1): 1, (1, 0): 1, (1, 1): 0}
        self.assertEqual(self.fits((h, h), (1, 0), costs), h)
        self.assertEqual(self.fits((1, 0), (0, 1), costs), 1)
        self.assertEqual(self.fits((h, h), (h, h), costs), 0)
        self.assertEqual(self.fits((1,), (1,), {(0, 0): S(3, 7)}), S(3, 7))
        self.assertEqual(self.fits((1,), (1,), {(0, 0): 0}), 0)
        self.assertEqual(self.fits((h, 0, h), (0, 1, 0), unlike_costs(3, S(1, 5))), S(1, 5))
        line = {(i, j): abs(i - j) for i in range(4) for j in range(4)}
        self.assertEqual(self.fits((1, 0, 0, 0), (0, 0, 0, 1), line), 3)
        self.assertEqual(self.fits((S(1, 4),) * 4, (0, h, h, 0), line), h)

    def test_it_may_be_dear_to_stay(self):
        costs = {(0, 0): 5, (0, 1): 1, (1, 0): 1, (1, 1): 5}
        self.assertEqual(self.fits((h, h), (h, h), costs), 1)

    def test_items_that_are_0(self):
        costs = {(i, j): (3 * i + 5 * j) % 7 for i in range(5) for j in range(5)}
        for p in ((0, 0, 1, 0, 0), (0, h, 0, h, 0), (1, 0, 0, 0, 0)):
            for q in ((0, 0, 0, 0, 1), (S(1, 3), 0, 0, 0, S(2, 3)), (0, h, 0, h, 0)):
                self.fits(p, q, costs)

    def test_drawn_ones_against_the_equations(self):
        draw = source(11)
        for _ in range(150):
            many = draw.randint(1, 4)
            p, q, costs = drawn_spread(draw, many), drawn_spread(draw, many), drawn_costs(draw, many)
            pairs = sorted(costs)
            rows = [tuple(int(pair[0] == at) for pair in pairs) for at in range(many)]
            rows += [tuple(int(pair[1] == at) for pair in pairs) for at in range(many)]
            least = cheapest(tuple(rows), p + q, tuple(costs[pair] for pair in pairs))
            self.assertEqual(self.fits(p, q, costs), least[1])

    def test_eight_indexes(self):
        draw = source(12)
        for most in (0, 1, 2, 9, 10 ** 11):
            for zeros in (0, 0.5):
                p, q = drawn_spread(draw, 8, zeros), drawn_spread(draw, 8, zeros)
                self.fits(p, q, drawn_costs(draw, 8, most, most + 1))
        even = (S(1, 8),) * 8
        for _ in range(10):
            self.fits(even, even, drawn_costs(draw, 8, 3, 1))

    def test_long_shares(self):
        big = 999999999989
        p = tuple(S(part, big) for part in (1, 2, 3, big - 6))
        q = tuple(S(part, big - 2) for part in (big - 8, 3, 2, 1))
        self.fits(p, q, drawn_costs(source(13), 4, 10 ** 12 - 1, 10 ** 12 - 1))

    def test_bad_spread_p(self):
        costs = unlike_costs(2)
        for thing in odd_objects() + [[h, h], (h, S(1, 3)), (2, -1), (1, False), (S(1, 9),) * 9, (0,) * 8 + (1,), ()]:
            self.refuses(BadSpread, {"part": "p"}, carry, thing, None, None)
            self.refuses(BadSpread, {"part": "p"}, carry, thing, (h, h), costs)
        self.fits((0,) * 7 + (1,), (1,) + (0,) * 7, unlike_costs(8))

    def test_bad_spread_q(self):
        for thing in odd_objects() + [[h, h], (h, S(1, 3)), (2, -1), (1, False), (1,), (h, h, 0), ()]:
            self.refuses(BadSpread, {"part": "q"}, carry, (h, h), thing, None)

    def test_bad_costs(self):
        right = unlike_costs(2)
        self.fits((h, h), (0, 1), right)
        wrong = [
            {(0, 0): 0, (0, 1): 1, (1, 0): 1}, dict(right, **{"a": 1}), {**right, (2, 2): 0}, {**right, (0, 1): -1},
            {**right, (0, 1): S(-1, 9)}, {**right, (0, 1): True}, {**right, (0, 1): None}, {**right, (0, 1): "1"},
            {(0, 0): 0, (0, True): 1, (1, 0): 1, (1, 1): 0}, {(0, 0): 0, (0, 1): 1, (True, 0): 1, (1, 1): 0},
            {(False, 0): 0, (0, 1): 1, (1, 0): 1, (1, 1): 0}, {(0, 0): 0, (0, 1): 1, (1, 0): 1, (1, 2): 0},
            {(0, 0): 0, (0, 1): 1, (1, 0): 1, (1, 1 + 0j): 0}, {0: 0, 1: 1, 2: 1, 3: 0}, sorted(right.items()),
            {(0, 0): 0, (0, 1): 1, (1, 0): 1, (1, 1, 1): 0}, unlike_costs(1), unlike_costs(3),
        ]
        for thing in odd_objects() + wrong:
            self.refuses(BadCosts, {}, carry, (h, h), (0, 1), thing)
        for thing in odd_objects():
            if not (isinstance(thing, S) or type(thing) is int):
                self.refuses(BadCosts, {}, carry, (h, h), (0, 1), {**right, (1, 1): thing})

    def test_the_first_error_is_raised(self):
        self.refuses(BadSpread, {"part": "p"}, carry, (h,), (h,), {})
        self.refuses(BadSpread, {"part": "q"}, carry, (1,), (h,), {})


class JudgesTest(Case):

    def test_is_plan(self):
        p, q = (h, h, 0), (0, S(1, 4), S(3, 4))
        for thing in (
            {(0, 1): S(1, 4), (0, 2): S(1, 4), (1, 2): h}, {(1, 2): h, (0, 2): S(1, 4), (0, 1): S(1, 4)},
            {(0, 2): h, (1, 1): S(1, 4), (1, 2): S(1, 4)},
        ):
            self.judges(True, is_plan, p, q, thing)
        for thing in (
            {}, {(0, 1): S(1, 4), (0, 2): S(1, 4)}, {(0, 1): S(1, 4), (0, 2): S(1, 4), (1, 2): S(1, 4)},
            {(0, 1): S(1, 4), (0, 2): S(1, 4), (1, 2): h, (2, 2): 0}, {(0, 1): h, (1, 2): h},
            {(0, 1): h, (0, 2): S(1, 4), (1, 2): h, (1, 1): S(-1, 4)},
            {(0, True): S(1, 4), (0, 2): S(1, 4), (1, 2): h}, {(False, 1): S(1, 4), (0, 2): S(1, 4), (1, 2): h},
            {(0, 1): S(1, 4), (0, 2): S(1, 4), (1, 2): h, (3, 0): h},
            {(0, 1): S(1, 4), (0, 2): S(1, 4), (1, 2): h, (0, -1): h},
            {(0, 1): S(1, 4), (0, 2): S(1, 4), (1, 2): h, "a": 0},
            {(1, 0): S(1, 4), (2, 0): S(1, 4), (2, 1): h}, [((0, 1), S(1, 4)), ((0, 2), S(1, 4)), ((1, 2), h)],
        ):
            self.judges(False, is_plan, p, q, thing)
        # One side comes out right here, the other one does not.
        self.judges(False, is_plan, (h, h), (0, 1), {(0, 1): 1})
        self.judges(False, is_plan, (h, h), (0, 1), {(0, 0): h, (1, 1): h})
        self.judges(True, is_plan, (1,), (1,), {(0, 0): 1})
        self.judges(True, is_plan, (1, 0), (0, S(1)), {(0, 1): S(1)})
        self.judges(False, is_plan, (1,), (1,), {(0, 0): True})

    def test_is_prices(self):
        costs = {(0, 0): 0, (0, 1): h, (1, 0): 1, (1, 1): 0}
        for thing in (
            ((0, 0), (0, 0)), ((h, 1), (-1, S(-1))), ((-5, -9), (1, 2)), ((0, S(0)), (0, S(0))),
            ((S(1, 4), 0), (S(-1, 4), 0)),
        ):
            self.judges(True, is_prices, costs, thing)
        for thing in (
            ((0, 0), (0, S(1, 9))), ((1, 0), (0, 0)), ((0, 0),), ((0, 0), (0, 0), (0, 0)), [(0, 0), (0, 0)],
            ([0, 0], (0, 0)), ((0, 0), [0, 0]), ((0,), (0, 0)), ((0, 0), (0,)), ((0, 0, 0), (0, 0, 0)),
            ((0, False), (0, 0)), ((0, 0), (0, None)), ((0, 0), ("0", 0)), ((S(3, 4), 0), (0, S(-1, 8))),
        ):
            self.judges(False, is_prices, costs, thing)

    def test_any_object_is_judged(self):
        for thing in odd_objects():
            self.judges(False, is_plan, (h, h), (0, 1), thing)
            self.judges(False, is_prices, unlike_costs(2), thing)
            self.judges(False, is_prices, unlike_costs(2), (thing, (0, 0)))
            if not (isinstance(thing, S) or type(thing) is int):
                self.judges(False, is_plan, (1,), (1,), {(0, 0): thing})
                self.judges(False, is_prices, unlike_costs(1), ((-10 ** 40,), (thing,)))

    def test_plan_cost_and_worth(self):
        costs = {(0, 0): 3, (0, 1): h, (1, 0): S(1, 3), (1, 1): 0}
        for plan, cost in (({(0, 0): 1}, 3), ({(0, 1): S(1, 4), (1, 0): S(3, 4)}, S(3, 8)), ({(1, 1): 1}, 0)):
            self.is_share(plan_cost(costs, plan))
            self.assertEqual(plan_cost(costs, plan), cost)
        for p, q, prices, gain in (
            ((1, 0), (0, 1), ((2, 9), (9, -3)), -1), ((h, h), (S(1, 3), S(2, 3)), ((1, 2), (3, S(3, 2))), S(7, 2)),
            ((1, 0), (1, 0), ((0, 0), (0, 0)), 0),
        ):
            self.is_share(worth(p, q, prices))
            self.assertEqual(worth(p, q, prices), gain)


if __name__ == "__main__":
    unittest.main()
