"""[2.1]: equations."""

import unittest

from bothwalks.equations import solve
from bothwalks.errors import BadRight, BadRows
from tests.helpers import Case, S, fraction, fractions, h, odd_objects, source


def sums(rows, values):
    """The left sides of the equations, in fractions."""
    return [sum(fraction(part) * fraction(value) for part, value in zip(row, values)) for row in rows]


def rank(rows):
    """The rank of rows, in fractions."""
    left = [fractions(row) for row in rows]
    found = 0
    for column in range(len(left[0]) if left else 0):
        lead = next((row for row in left if row[column] != 0), None)
        if lead is None:
            continue
        found += 1
        left = [
            [part - row[column] / lead[column] * above for part, above in zip(row, lead)]
            for row in left if row is not lead
        ]
    return found


class SolveTest(Case):

    def fits(self, rows, right):
        """What solve answers is what the equations demand; its first word."""
        answer = solve(rows, right)
        self.assertIs(type(answer), tuple)
        joined = [tuple(row) + (end,) for row, end in zip(rows, right)]
        if answer[0] == "none":
            self.assertEqual(len(answer), 2)
            self.assertGreater(rank(joined), rank(rows))
            weights = answer[1]
            self.assertIs(type(weights), tuple)
            self.assertEqual(len(weights), len(rows))
            self.are_shares(weights)
            self.assertTrue(all(part == 0 for part in sums(zip(*rows), weights)))
            self.assertNotEqual(sums([right], weights)[0], 0)
            return "none"
        self.assertEqual(rank(joined), rank(rows))
        values = answer[1]
        self.assertIs(type(values), tuple)
        self.assertEqual(len(values), len(rows[0]))
        self.are_shares(values)
        self.assertEqual(sums(rows, values), fractions(right))
        if answer[0] == "one":
            self.assertEqual(len(answer), 2)
            self.assertEqual(rank(rows), len(rows[0]))
            return "one"
        self.assertEqual(len(answer), 3)
        self.assertEqual(answer[0], "many")
        # An unknown is settled exactly if asking for it alone does not raise the rank.
        units = [tuple(int(at == spot) for at in range(len(rows[0]))) for spot in range(len(rows[0]))]
        loose = tuple(at for at, unit in enumerate(units) if rank(list(rows) + [unit]) > rank(rows))
        self.assertEqual(answer[2], loose)
        self.assertTrue(loose)
        return "many"

    def test_one(self):
        self.assertEqual(solve(((1, 1), (1, -1)), (3, 1)), ("one", (S(2), S(1))))
        self.assertEqual(solve(((2,),), (3,)), ("one", (S(3, 2),)))
        self.assertEqual(solve(((0, h), (S(1, 3), 0)), (1, 1)), ("one", (S(3), S(2))))
        for rows, right in (
            (((1, 1), (1, -1)), (3, 1)), (((0, 2), (3, 0)), (0, 0)), (((h, S(1, 3)), (1, 1)), (S(1, 7), -4)),
            (((1, 0), (0, 1), (1, 1)), (2, 3, 5)), (((1,), (2,), (3,)), (1, 2, 3)), (((-1, 2), (2, -1)), (0, 3)),
        ):
            self.assertEqual(self.fits(rows, right), "one")

    def test_many(self):
        for rows, right, loose in (
            (((1, 1),), (1,), (0, 1)), (((1, 0),), (1,), (1,)), (((0, 0),), (0,), (0, 1)),
            (((1, 1, 0), (2, 2, 0), (0, 0, 1)), (1, 2, 5), (0, 1)), (((0, 1, 1), (0, 1, -1)), (2, 0), (0,)),
            (((0,), (0,)), (0, 0), (0,)), (((1, 2, 3),), (6,), (0, 1, 2)),
        ):
            self.assertEqual(self.fits(rows, right), "many")
            self.assertEqual(solve(rows, right)[2], loose)

    def test_none(self):
        for rows, right in (
            (((0,),), (1,)), (((0, 0), (0, 0)), (0, h)), (((1, 1), (1, 1)), (1, 2)), (((1, 1), (2, 2)), (1, 3)),
            (((1, 0), (0, 1), (1, 1)), (2, 3, 6)), (((1, 2), (0, 0)), (5, -1)), (((1,), (2,), (3,)), (1, 2, 4)),
            (((1, 1, 0), (0, 1, 1), (1, 2, 1)), (1, 1, 3)), (((2, 0), (0, 0), (1, 0)), (2, 0, 2)),
        ):
            self.assertEqual(self.fits(rows, right), "none")

    def test_drawn_equations(self):
        draw = source(2)
        words = {}
        for _ in range(400):
            many, unknowns = draw.randint(1, 5), draw.randint(1, 5)
            rows = [tuple(S(draw.randint(-2, 2), draw.randint(1, 3)) for _ in range(unknowns)) for _ in range(many)]
            if many > 2 and draw.random() < 0.5:
                rows[-1] = tuple(one * 2 - other for one, other in zip(rows[0], rows[1]))
            right = tuple(draw.randint(-2, 2) for _ in range(many))
            if many > 2 and draw.random() < 0.7:
                right = right[:-1] + (right[0] * 2 - right[1],)
            word = self.fits(tuple(rows), right)
            words[word] = words.get(word, 0) + 1
        self.assertEqual(sorted(words), ["many", "none", "one"])

    def test_the_greatest_size(self):
        draw = source(3)
        rows = tuple(tuple(draw.randint(-3, 3) for _ in range(60)) for _ in range(60))
        values = tuple(S(draw.randint(-9, 9), draw.randint(1, 9)) for _ in range(60))
        right = tuple(sum([part * value for part, value in zip(row, values)], S(0)) for row in rows)
        self.assertEqual(solve(rows, right), ("one", values))

    def test_long_shares(self):
        draw = source(4)
        rows = tuple(
            tuple(S(draw.randint(-10 ** 12 + 1, 10 ** 12 - 1), draw.randint(1, 10 ** 12 - 1)) for _ in range(6))
            for _ in range(6)
        )
        self.assertEqual(self.fits(rows, rows[0]), "one")
        self.assertEqual(self.fits(rows[:5], rows[1][:5]), "many")
        self.assertEqual(self.fits(rows[:5] + (rows[0],), rows[1]), "none")

    def test_limits_of_rows_and_unknowns(self):
        self.assertEqual(solve(((1,),) * 60, (1,) * 60)[0], "one")
        self.refuses(BadRows, {"index": -1}, solve, ((1,),) * 61, (1,) * 61)
        self.refuses(BadRows, {"index": -1}, solve, (), ())
        self.assertEqual(solve(((1,) * 60,), (1,))[2], tuple(range(60)))
        self.refuses(BadRows, {"index": 0}, solve, ((1,) * 61,), (1,))
        self.refuses(BadRows, {"index": 0}, solve, ((),), (1,))
        self.refuses(BadRows, {"index": 0}, solve, ((), (1,)), (1, 1))

    def test_bad_rows(self):
        for rows, index in (
            ([(1,)], -1), (((1, 1), (1,)), 1), (((1,), (1, 1)), 1), (((1, 1), (1, 1), [1, 1]), 2),
            (((1, True), (1, 1)), 0), (((1, 1), (False, 1)), 1), (([1], (1,)), 0), (((1,), (1,), (None,), ()), 2),
            (((1,), ()), 1), ((1, 2), 0), (((1,), 2), 1),
        ):
            self.refuses(BadRows, {"index": index}, solve, rows, None)

    def test_bad_rows_for_any_object(self):
        for thing in odd_objects():
            if not (isinstance(thing, tuple) and thing):
                self.refuses(BadRows, {"index": -1}, solve, thing, (1,))
            else:
                self.refuses(BadRows, {"index": 0}, solve, thing, (1,))
            self.refuses(BadRows, {"index": 0}, solve, (thing, (1,)), (1,))
            self.refuses(BadRows, {"index": 1}, solve, ((1,), thing), (1,))
            if not (isinstance(thing, S) or type(thing) is int):
                self.refuses(BadRows, {"index": 1}, solve, ((1, 1), (1, thing)), (1,))

    def test_bad_right(self):
        rows = ((1, 2), (3, 4))
        for thing in odd_objects() + [(1,), (1, 2, 3), [1, 2], (1, True), (None, 1)]:
            self.refuses(BadRight, {}, solve, rows, thing)
            if not (isinstance(thing, S) or type(thing) is int):
                self.refuses(BadRight, {}, solve, rows, (1, thing))

    def test_bad_rows_come_ahead_of_bad_right(self):
        self.refuses(BadRows, {"index": 1}, solve, ((1,), (True,)), (1, True))


if __name__ == "__main__":
    unittest.main()
