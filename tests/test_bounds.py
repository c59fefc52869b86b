"""[17.3]: how far the best worths of two states can be apart."""

import unittest
from fractions import Fraction

from bothwalks.bounds import worth_bounds
from bothwalks.carrying import carry
from bothwalks.choices import Choices, best_worths
from bothwalks.errors import TooMany
from tests.helpers import Case, S, all_pairs, corner_plans, drawn_choices, fraction, h, source


def drawn(seed, many, sizes=(1, 2, 3, 4), zeros=0.4):
    draw = source(seed)
    for _ in range(many):
        yield drawn_choices(draw, draw.choice(sizes), draw.choice([1, 2, 3]), zeros)


def options_of(choices, state):
    """The pays and the rows of the options of a state."""
    return [(choices.pay(state, name), choices.row(state, name)) for name in choices.names(state)]


def walked_through(choices, known, cost_of):
    """The right side of the equation for all pairs, in fractions."""
    found = {}
    for s, t in all_pairs(choices):
        ones, others = options_of(choices, s), options_of(choices, t)
        table = [[
            abs(fraction(pay) - fraction(owed)) + fraction(choices.factor) * cost_of(row, other, known)
            for owed, other in others
        ] for pay, row in ones]
        found[(s, t)] = max([min(line) for line in table] + [min(line) for line in zip(*table)])
    return found


def carried_cost(p, q, known):
    return fraction(carry(p, q, known)[0])


def corner_cost(p, q, known):
    """The least cost over all corner plans."""
    return min(sum(fraction(amount) * known[pair] for pair, amount in plan.items()) for plan in corner_plans(p, q))


class BoundsTest(Case):

    def test_bounds(self):
        one = Choices(((("a", 5, (1,)), ("b", 1, (1,))),), h)
        self.assertEqual(worth_bounds(one), {(0, 0): 0})
        # Both stay where they are: what their pays differ by comes again and again.
        stay = Choices(((("a", 1, (1, 0)),), (("a", 4, (0, 1)),)), S(2, 3))
        self.assertEqual(worth_bounds(stay), {(0, 0): 0, (0, 1): 9, (1, 0): 9, (1, 1): 0})
        # Both may go to 0; the challenger lets 1 stay.
        away = Choices(((("a", 1, (1, 0)),), (("a", 1, (1, 0)), ("b", 0, (0, 1)))), h)
        self.assertEqual(worth_bounds(away)[(0, 1)], 2)
        self.assertEqual(worth_bounds(away)[(1, 0)], 2)

    def test_a_challenge_of_either_state(self):
        # 0 has one option that 1 has, too; 1 has a further one that pays 7.
        for moves in (
            ((("a", 0, (0, 0, 1)),), (("a", 0, (0, 0, 1)), ("b", 7, (0, 0, 1))), (("a", 0, (0, 0, 1)),)),
            ((("a", 0, (0, 0, 1)), ("b", 7, (0, 0, 1))), (("x", 0, (0, 0, 1)),), (("a", 0, (0, 0, 1)),)),
        ):
            found = worth_bounds(Choices(moves, h))
            self.assertEqual((found[(0, 1)], found[(1, 0)]), (7, 7))

    def test_the_answer_that_costs_least(self):
        moves = ((("a", 3, (1, 0)),), (("a", 0, (1, 0)), ("b", 2, (1, 0)), ("c", 9, (1, 0))))
        self.assertEqual(worth_bounds(Choices(moves, h))[(0, 1)], 6)
        self.assertEqual(worth_bounds(Choices((moves[0], moves[1][:2]), h))[(0, 1)], 3)
        self.assertEqual(worth_bounds(Choices((moves[0], moves[1][1:2]), h))[(0, 1)], 1)

    def test_the_equation(self):
        nonzero = 0
        for choices in list(drawn(181, 40)) + list(drawn(182, 10, (4,), 0.1)) + list(drawn(183, 10, (3, 4), 0.7)):
            found = worth_bounds(choices)
            self.assertIs(type(found), dict)
            self.assertEqual(list(found), all_pairs(choices))
            self.are_shares(found.values())
            self.assertEqual({pair: fraction(found[pair]) for pair in found},
                             walked_through(choices, found, carried_cost))
            for s, t in all_pairs(choices):
                self.assertEqual(found[(s, t)], found[(t, s)])
                self.assertFalse(found[(s, t)].less(0))
            for state in range(choices.size):
                self.assertEqual(found[(state, state)], 0)
            nonzero += any(share != 0 for share in found.values())
        self.assertGreater(nonzero, 40)

    def test_the_equation_from_afar(self):
        # From any numbers on, each look at all corner plans comes nearer by the factor.
        for choices in drawn(184, 8, (2, 3)):
            found = {pair: fraction(share) for pair, share in worth_bounds(choices).items()}
            for begin in (0, 50):
                known = {pair: Fraction(begin) for pair in found}
                gap = max(abs(known[pair] - found[pair]) for pair in found)
                for _ in range(3):
                    known = walked_through(choices, known, corner_cost)
                    gap = gap * fraction(choices.factor)
                    self.assertLessEqual(max(abs(known[pair] - found[pair]) for pair in found), gap)

    def test_they_bound_the_best_worths(self):
        for choices in drawn(185, 40):
            found, best = worth_bounds(choices), best_worths(choices)
            for s, t in all_pairs(choices):
                self.assertLessEqual(abs(fraction(best[s]) - fraction(best[t])), fraction(found[(s, t)]))

    def test_options_of_the_same_pay_and_spread(self):
        draw = source(186)
        for _ in range(15):
            choices = drawn_choices(draw, 3, 2)
            moves = []
            for state in range(3):
                told = [(name, choices.pay(state, name), choices.row(state, name)) for name in choices.names(state)]
                moves.append(tuple(told) + (("same",) + told[-1][1:],))
            self.assertEqual(worth_bounds(Choices(tuple(moves), choices.factor)), worth_bounds(choices))
            # Two states with the same options, under other names, are not apart at all.
            other = tuple(("x" + name[:2], pay, row) for name, pay, row in reversed(moves[0]))
            twins = worth_bounds(Choices((moves[0], other, moves[2]), choices.factor))
            self.assertEqual(twins[(0, 1)], 0)
            self.assertEqual(twins[(0, 2)], twins[(1, 2)])

    def test_long_shares(self):
        row = (S(1, 999999999989), S(1, 999999999961), S(1, 999999999937))
        row = row + (1 - sum(row, S(0)),)
        moves = tuple(
            (("a", S(state * 10 ** 11 + 7, 999999999899), row[state:] + row[:state]), ("b", state, row))
            for state in range(4)
        )
        choices = Choices(moves, S(999999999998, 999999999999))
        found = worth_bounds(choices)
        self.assertEqual({pair: fraction(found[pair]) for pair in found},
                         walked_through(choices, found, carried_cost))

    def test_too_many(self):
        self.refuses(TooMany, {"limit": 4}, worth_bounds, next(iter(drawn(187, 1, (5,)))))
        self.assertEqual(len(worth_bounds(next(iter(drawn(188, 1, (4,)))))), 16)


if __name__ == "__main__":
    unittest.main()
