"""[2.2] and [2.3]: amounts from 0 on, and cheapest ones."""

import signal
import unittest

from bothwalks.amounts import amounts, cheapest, is_amounts, is_refusal
from bothwalks.errors import BadCosts, BadRight, BadRows
from tests.helpers import Case, S, fraction, fractions, h, odd_objects, source
from tests.test_equations import sums

IDLE = (
    ((
        (5, 2, -6, 1, 4, -4, -3, 2, 5),
        (-6, -5, 4, 1, -4, 1, -6, 0, -9),
        (1, 6, 5, 0, 9, -8, 0, 0, 8),
        (2, 0, 4, -1, 6, 0, 0, -8, -8),
    ), (2, 9, 8, 6, -9, 4, 2, 2, 9)),
    ((
        (6, 4, -2, 7, -8, -7, -6, 0, 3, 0),
        (2, 0, -6, -9, -8, -2, -8, 0, 1, -8),
        (0, 7, 0, 0, 0, 0, 7, 8, -4, -9),
        (5, 0, 4, 3, 4, 8, -8, -4, 4, 0),
    ), (-8, -1, -1, 4, -3, -4, -3, 5, 0, -4)),
    ((
        (9, -7, -3, 1, 8, 5, 8, 9, 0, -1, 7),
        (-4, 4, 4, -7, -6, 8, -6, -2, 7, 4, 3),
        (4, 0, 6, 0, 4, 9, -3, 8, -3, 5, -5),
        (-9, -1, 5, 8, 0, 0, -9, -7, 0, 0, 2),
    ), (-3, 0, 5, 8, 9, 7, -8, 4, 8, -7, 2)),
    ((
        (-8, -6, 0, 8, -2, -2, -9, 5, -3, 0, 4),
        (-1, 0, 2, 8, 6, -7, 0, -6, 8, 1, -2),
        (2, -1, 2, 4, 8, 0, -3, 0, -2, -8, 0),
        (4, -8, 0, 8, 0, -7, 0, 0, -2, 0, 8),
    ), (1, 7, 2, 0, -2, 0, 9, -1, -4, -2, -1)),
    ((
        (1, 0, 0, 0, 9, -1, -4, 1, 0),
        (0, 1, 0, 0, -8, -6, -1, 6, 4),
        (0, 0, 1, 0, -8, 0, 7, 6, -5),
        (0, 0, 0, 1, 5, 5, -4, -4, 7),
    ), (3, 8, -1, 5, 8, -7, 4, -9, -7)),
    ((
        (1, 0, 0, 2, 7, 9, 2, 0, -3, 1),
        (0, 1, 0, 0, 0, -2, 3, 0, -7, 8),
        (0, 0, 1, 9, 1, 0, -7, -3, 3, 0),
    ), (3, 5, 7, 6, 4, 9, 5, -7, 9, 9)),
    ((
        (1, 0, 0, 3, 0, -6, 6, 0, -9, 6),
        (0, 1, 0, -1, 0, 0, 3, -4, -6, 0),
        (0, 0, 1, 9, 7, 0, 3, 5, -7, 2),
    ), (9, -4, 5, 0, 3, -9, 1, -2, -5, -3)),
)


def drawn_equations(draw, most=5, bottoms=3):
    """Rows, right sides and costs; about half of them have solutions from 0 on."""
    many, unknowns = draw.randint(1, most), draw.randint(1, most)
    rows = [tuple(S(draw.randint(-2, 3), draw.randint(1, bottoms)) for _ in range(unknowns)) for _ in range(many)]
    if many > 2 and draw.random() < 0.4:
        rows[-1] = tuple(one + other for one, other in zip(rows[0], rows[1]))
    if many > 1 and draw.random() < 0.2:
        rows[0] = (0,) * unknowns
    if draw.random() < 0.6:
        values = [draw.choice([0, 0, 1, 2, h]) for _ in range(unknowns)]
        right = tuple(sum([part * value for part, value in zip(row, values)], S(0)) for row in rows)
    else:
        right = tuple(S(draw.randint(-2, 2)) for _ in range(many))
    return tuple(rows), right, tuple(S(draw.randint(-2, 5), draw.randint(1, bottoms)) for _ in range(unknowns))


class AmountsCase(Case):

    def solves(self, rows, right, values):
        self.assertIs(type(values), tuple)
        self.assertEqual(len(values), len(rows[0]))
        self.are_shares(values)
        self.assertTrue(all(value >= 0 for value in fractions(values)))
        self.assertEqual(sums(rows, values), fractions(right))

    def refused(self, rows, right, weights):
        self.assertIs(type(weights), tuple)
        self.assertEqual(len(weights), len(rows))
        self.are_shares(weights)
        self.assertTrue(all(part <= 0 for part in sums(zip(*rows), weights)))
        self.assertGreater(sums([right], weights)[0], 0)

    def checks_errors(self, call):
        self.refuses(BadRows, {"index": -1}, call, (), ())
        self.refuses(BadRows, {"index": -1}, call, ((1,),) * 21, (1,) * 21)
        self.refuses(BadRows, {"index": 0}, call, ((1,) * 41,), (1,))
        self.refuses(BadRows, {"index": 0}, call, ((),), (1,))
        self.refuses(BadRows, {"index": 1}, call, ((1,), (1, 2)), (1, 1))
        self.refuses(BadRows, {"index": 1}, call, ((1, 1), (1, False)), None)
        self.refuses(BadRight, {}, call, ((1,), (1,)), (1,))
        self.refuses(BadRight, {}, call, ((1,),), (True,))
        for thing in odd_objects():
            index = 0 if isinstance(thing, tuple) and thing else -1
            self.refuses(BadRows, {"index": index}, call, thing, None)
            self.refuses(BadRows, {"index": 1}, call, ((1,), thing), None)
            self.refuses(BadRight, {}, call, ((1,), (1,)), thing)


class AmountsTest(AmountsCase):

    def fits(self, rows, right):
        answer = amounts(rows, right)
        self.assertIs(type(answer), tuple)
        self.assertEqual(len(answer), 2)
        if answer[0] == "some":
            self.solves(rows, right, answer[1])
        else:
            self.assertEqual(answer[0], "none")
            self.refused(rows, right, answer[1])
        self.judges(answer[0] == "some", is_amounts, rows, right, answer[1])
        self.judges(answer[0] == "none", is_refusal, rows, right, answer[1])
        return answer[0]

    def test_some(self):
        for rows, right in (
            (((1, 1),), (1,)), (((1, -1),), (-3,)), (((-1, -1),), (-3,)), (((1, 2), (2, 1)), (4, 5)),
            (((0, 0),), (0,)), (((1, 1), (2, 2), (3, 3)), (1, 2, 3)), (((h, S(1, 3)), (1, 0)), (1, h)),
            (((1, 0, 1), (0, 1, 1)), (0, 0)), (((0, 0), (1, 1)), (0, 1)), (((1, -1), (-1, 1)), (0, 0)),
        ):
            self.assertEqual(self.fits(rows, right), "some")

    def test_none(self):
        for rows, right in (
            (((1, 1),), (-1,)), (((0, 0),), (1,)), (((0, 0),), (-1,)), (((1, 1), (1, 1)), (1, 2)),
            (((1, 0), (0, 1)), (1, -1)), (((1, -1), (-1, 1)), (1, 1)), (((1, 2), (2, 1)), (1, 5)),
            (((1, 1), (0, 0)), (2, -h)), (((-1,),), (S(1, 9),)),
        ):
            self.assertEqual(self.fits(rows, right), "none")

    def test_drawn_equations(self):
        draw = source(5)
        words = [self.fits(*drawn_equations(draw)[:2]) for _ in range(400)]
        self.assertGreater(words.count("some"), 100)
        self.assertGreater(words.count("none"), 100)

    def test_the_greatest_size(self):
        draw = source(6)
        rows = tuple(tuple(draw.randint(-4, 4) for _ in range(40)) for _ in range(20))
        values = [draw.randint(0, 3) for _ in range(40)]
        right = tuple(sum(part * value for part, value in zip(row, values)) for row in rows)
        self.assertEqual(self.fits(rows, right), "some")
        rows = rows[:19] + (tuple(abs(part) for part in rows[19]),)
        self.assertEqual(self.fits(rows, right[:19] + (-1,)), "none")

    def test_long_shares(self):
        draw = source(7)
        rows = tuple(
            tuple(S(draw.randint(1, 10 ** 12 - 1), draw.randint(1, 10 ** 12 - 1)) for _ in range(6))
            for _ in range(4)
        )
        self.assertEqual(self.fits(rows, tuple(sum(row, S(0)) for row in rows)), "some")
        self.assertEqual(self.fits(rows, (1, 1, 1, -1)), "none")

    def test_errors(self):
        self.checks_errors(amounts)

    def test_limits_that_are_kept(self):
        self.assertEqual(self.fits(((1,),) * 20, (1,) * 20), "some")
        self.assertEqual(self.fits(((1,) * 40,), (1,)), "some")


class CheapestTest(AmountsCase):

    def fits(self, rows, right, costs):
        answer = cheapest(rows, right, costs)
        self.assertIs(type(answer), tuple)
        if answer[0] == "none":
            self.assertEqual(len(answer), 2)
            self.refused(rows, right, answer[1])
        elif answer[0] == "least":
            word, cost, values, weights = answer
            self.is_share(cost)
            self.solves(rows, right, values)
            self.assertEqual(sums([costs], values)[0], fraction(cost))
            self.assertIs(type(weights), tuple)
            self.assertEqual(len(weights), len(rows))
            self.are_shares(weights)
            for part, most in zip(sums(zip(*rows), weights), fractions(costs)):
                self.assertLessEqual(part, most)
            self.assertEqual(sums([right], weights)[0], fraction(cost))
        else:
            word, values, way = answer
            self.assertEqual(word, "falls")
            self.solves(rows, right, values)
            self.solves(rows, (0,) * len(rows), way)
            self.assertLess(sums([costs], way)[0], 0)
        return answer[0]

    def test_least(self):
        for rows, right, costs, cost in (
            (((1, 1),), (1,), (2, 3), 2), (((1, 1),), (1,), (-2, 3), -2), (((1, -1),), (1,), (1, 0), 1),
            (((1, 2), (2, 1)), (4, 5), (1, 1), 3), (((1, 1), (2, 2)), (1, 2), (5, h), h), (((0, 0),), (0,), (1, 1), 0),
            (((1, 1, 1),), (S(1, 3),), (3, 2, 4), S(2, 3)), (((-1, -1),), (-2,), (1, 1), 2),
            (((0, 0), (1, 1)), (0, 2), (-1, -3), -6),
        ):
            self.assertEqual(self.fits(rows, right, costs), "least")
            self.assertEqual(cheapest(rows, right, costs)[1], cost)

    def test_falls(self):
        for rows, right, costs in (
            (((1, -1),), (1,), (-1, 0)), (((1, -1),), (1,), (1, -2)), (((0,),), (0,), (-1,)),
            (((0, 1),), (2,), (-h, 5)), (((1, -1), (2, -2)), (0, 0), (-1, 0)), (((1, 0, -1),), (-3,), (0, -1, 0)),
        ):
            self.assertEqual(self.fits(rows, right, costs), "falls")

    def test_none_comes_ahead_of_costs_that_fall(self):
        self.assertEqual(self.fits(((1, 1, 0),), (-1,), (1, 1, -1)), "none")
        self.assertEqual(self.fits(((0,),), (1,), (-1,)), "none")

    def test_drawn_equations(self):
        draw = source(8)
        words = [self.fits(*drawn_equations(draw)) for _ in range(500)]
        for word in ("none", "least", "falls"):
            self.assertGreater(words.count(word), 30, word)

    def test_more_unknowns(self):
        draw = source(9)
        for _ in range(10):
            self.fits(*drawn_equations(draw, 12, 1))

    def test_idle_steps_do_not_go_round_for_ever(self):
        # With all right sides 0 a simplex may come back to where it was, for some choices of what goes out.
        def stop(signal_number, frame):
            self.fail("it goes on and on")
        before = signal.signal(signal.SIGALRM, stop)
        signal.alarm(30)
        try:
            for rows, costs in IDLE:
                self.fits(rows, (0,) * len(rows), costs)
        finally:
            signal.alarm(0)
            signal.signal(signal.SIGALRM, before)

    def test_the_greatest_size(self):
        draw = source(10)
        rows = tuple(tuple(draw.randint(0, 4) for _ in range(40)) for _ in range(20))
        right = tuple(sum(row) for row in rows)
        costs = tuple(draw.randint(0, 9) for _ in range(40))
        self.assertEqual(self.fits(rows, right, costs), "least")

    def test_errors(self):
        self.checks_errors(lambda rows, right: cheapest(rows, right, None))

    def test_bad_costs(self):
        rows = ((1, 2), (3, 4))
        for thing in odd_objects() + [(1,), (1, 2, 3), [1, 2], (True, 1), (1, None)]:
            self.refuses(BadCosts, {}, cheapest, rows, (1, 1), thing)
            if not (isinstance(thing, S) or type(thing) is int):
                self.refuses(BadCosts, {}, cheapest, rows, (1, 1), (thing, 1))
        self.refuses(BadCosts, {}, cheapest, ((1, 1),), (-1,), (1,))


class JudgesTest(Case):

    rows, right = ((1, 1, 0), (0, 1, h)), (1, S(1, 4))

    def test_is_amounts(self):
        for thing in ((1, 0, h), (S(3, 4), S(1, 4), 0), (S(7, 8), S(1, 8), S(1, 4))):
            self.judges(True, is_amounts, self.rows, self.right, thing)
        for thing in (
            (0, 1, S(-3, 2)), (1, 0, 0), (1, 0, S(1, 4)), (1, 0), (1, 0, h, 0), [1, 0, h], (True, 0, h), (1, False, h),
            (2, -1, S(5, 2)), ("1", 0, h), (1, None, h), {0: 1, 1: 0, 2: h},
        ):
            self.judges(False, is_amounts, self.rows, self.right, thing)

    def test_is_refusal(self):
        rows, right = ((1, 1), (1, 2)), (1, -1)
        for thing in ((0, -1), (1, -1), (h, S(-1, 2)), (1, -7)):
            self.judges(True, is_refusal, rows, right, thing)
        for thing in (
            (0, 0), (1, 0), (2, -1), (-1, -1), (0, 1), (0, -1, 0), (0,), [0, -1], (False, -1), (0, None), (0, "-1"),
        ):
            self.judges(False, is_refusal, rows, right, thing)
        self.judges(True, is_refusal, ((0,),), (1,), (1,))
        self.judges(False, is_refusal, ((0,),), (0,), (1,))

    def test_any_object_is_judged(self):
        for thing in odd_objects():
            self.judges(False, is_amounts, self.rows, self.right, thing)
            self.judges(False, is_refusal, self.rows, self.right, thing)
            if not (isinstance(thing, S) or type(thing) is int):
                self.judges(False, is_amounts, ((1,),), (1,), (thing,))
                self.judges(False, is_refusal, ((1,),), (-1,), (thing,))


if __name__ == "__main__":
    unittest.main()
