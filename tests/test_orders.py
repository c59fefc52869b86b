"""[13.1] and [13.2]: orders."""

import itertools
import unittest

from bothwalks.carrying import is_plan
from bothwalks.errors import BadOrder, BadSpread, NoState
from bothwalks.orders import Order, line, under, up_sets
from tests.helpers import Case, S, drawn_spread, fraction, h, odd_objects, source

DIAMOND = Order(4, [(0, 1), (0, 2), (1, 3), (2, 3)])


def drawn_order(draw, size, share=0.4):
    """An order drawn from a source: pairs along a drawn row of the indexes."""
    row = list(range(size))
    draw.shuffle(row)
    return Order(size, [pair for pair in itertools.combinations(row, 2) if draw.random() < share])


def linked(size, pairs):
    """All (s, t) such that a chain of the pairs leads from s to t, each by a walk of its own."""
    found = set()
    for s in range(size):
        waiting, seen = [s], {s}
        while waiting:
            at = waiting.pop()
            for one, other in pairs:
                if one == at and other not in seen:
                    seen.add(other)
                    waiting.append(other)
        found |= {(s, t) for t in seen}
    return found


def tuples(size):
    """All ascending tuples of indexes below a size."""
    return sorted(part for many in range(size + 1) for part in itertools.combinations(range(size), many))


class OrderTest(Case):

    def test_orders(self):
        self.assertEqual(vars(DIAMOND)["size"], 4)
        self.assertEqual(DIAMOND.pairs(), [(0, 1), (0, 2), (0, 3), (1, 3), (2, 3)])
        self.judges(True, DIAMOND.below, 0, 3)
        self.judges(True, DIAMOND.below, 2, 2)
        self.judges(False, DIAMOND.below, 1, 2)
        self.judges(False, DIAMOND.below, 3, 0)
        self.assertEqual(Order(1, ()).pairs(), [])
        self.assertEqual(Order(1, [(0, 0), (0, 0)]).pairs(), [])
        self.assertEqual(Order(8, []).pairs(), [])
        self.assertEqual(Order(3, ((2, 1), (1, 0), (1, 1), (2, 1))).pairs(), [(1, 0), (2, 0), (2, 1)])
        self.assertEqual(len(Order(8, [(at + 1, at) for at in range(7)]).pairs()), 28)

    def test_chains_of_pairs(self):
        draw = source(131)
        for _ in range(60):
            size = draw.randint(1, 8)
            row = list(range(size))
            draw.shuffle(row)
            pairs = [pair for pair in itertools.combinations(row, 2) if draw.random() < 0.25]
            pairs += [(at, at) for at in row if draw.random() < 0.3] + pairs[:2]
            draw.shuffle(pairs)
            order = Order(size, tuple(pairs) if draw.random() < 0.5 else pairs)
            right = linked(size, pairs)
            self.assertEqual(order.size, size)
            self.assertIs(type(order.pairs()), list)
            self.assertEqual(order.pairs(), sorted((s, t) for s, t in right if s != t))
            for s in range(size):
                for t in range(size):
                    self.judges((s, t) in right, order.below, s, t)

    def test_turned(self):
        draw = source(132)
        for size in range(1, 9):
            order = drawn_order(draw, size)
            turned = order.turned()
            self.assertIs(type(turned), Order)
            self.assertEqual(turned.pairs(), sorted((t, s) for s, t in order.pairs()))
            self.assertTrue(turned.turned() == order)
            self.assertIs(turned == order, not order.pairs())

    def test_equal(self):
        self.assertTrue(Order(3, [(0, 1), (1, 2)]) == Order(3, ((1, 2), (0, 2), (0, 1), (0, 0))))
        self.assertTrue(Order(2, []) == Order(2, ()))
        for other in [Order(3, []), Order(2, [(0, 1)]), 2, None, [(0, 1)]] + odd_objects():
            if not isinstance(other, Order) or other.size != 2 or other.pairs():
                self.assertFalse(Order(2, []) == other)
                self.assertTrue(Order(2, []) != other)

    def test_it_keeps_a_copy(self):
        pairs = [(0, 1)]
        order = Order(3, pairs)
        pairs.append((1, 2))
        order.pairs().append((1, 2))
        self.assertEqual(order.pairs(), [(0, 1)])
        self.assertEqual(pairs, [(0, 1), (1, 2)])

    def test_bad_order(self):
        for size in odd_objects() + [0, 9, -1, S(2), "2"]:
            self.refuses(BadOrder, {}, Order, size, [])
            self.refuses(BadOrder, {}, line, size)
        for pairs in odd_objects() + [
            [(0, 2)], [(2, 0)], [(0, -1)], [(0, 1), (1, 0)], [(0, 1, 0)], [(0,)], [[0, 1]], [(0, True)], [(False, 1)],
            [(0, "1")], [(0, None)], {(0, 1): True}, {(0, 1)}, "01", [(0, S(1))], ((0, 1), None), [(0, 1), 0],
        ]:
            # Some odd objects are right here.
            if not isinstance(pairs, (list, tuple)) or pairs and pairs != [(0, 1)]:
                self.refuses(BadOrder, {}, Order, 2, pairs)
        for thing in odd_objects():
            self.refuses(BadOrder, {}, Order, 2, [(0, 1), thing])
            self.refuses(BadOrder, {}, Order, 2, [(0, thing)])

    def test_rings(self):
        for size in range(2, 9):
            ring = [(at, (at + 1) % size) for at in range(size)]
            self.refuses(BadOrder, {}, Order, size, ring)
            self.refuses(BadOrder, {}, Order, size, tuple(reversed(ring)))
            self.assertEqual(len(Order(size, ring[1:]).pairs()), size * (size - 1) // 2)
        self.refuses(BadOrder, {}, Order, 5, [(4, 2), (0, 1), (2, 3), (3, 4)])

    def test_no_state(self):
        for thing in odd_objects() + [4, -1, S(0), "0"]:
            self.refuses(NoState, {"state": thing}, DIAMOND.below, thing, 0)
            self.refuses(NoState, {"state": thing}, DIAMOND.below, 0, thing)
            self.refuses(NoState, {"state": thing}, DIAMOND.below, thing, 9)


class UpSetsTest(Case):

    def test_up_sets(self):
        self.assertEqual(up_sets(line(1)), [(), (0,)])
        self.assertEqual(up_sets(line(2)), [(), (0, 1), (1,)])
        self.assertEqual(up_sets(Order(2, [])), [(), (0,), (0, 1), (1,)])
        self.assertEqual(up_sets(DIAMOND), [(), (0, 1, 2, 3), (1, 2, 3), (1, 3), (2, 3), (3,)])
        self.assertEqual(len(up_sets(Order(8, []))), 256)
        self.assertEqual(len(up_sets(line(8))), 9)

    def test_a_look_at_all(self):
        draw = source(133)
        for _ in range(40):
            order = drawn_order(draw, draw.randint(1, 7))
            right = [
                part for part in tuples(order.size)
                if all(t in part for s in part for t in range(order.size) if order.below(s, t))
            ]
            self.assertIs(type(up_sets(order)), list)
            self.assertEqual(up_sets(order), right)
            self.assertEqual(right[0], ())
            self.assertIn(tuple(range(order.size)), right)


class LineTest(Case):

    def test_line(self):
        for size in range(1, 9):
            self.assertIs(type(line(size)), Order)
            self.assertEqual(line(size).size, size)
            self.assertEqual(line(size).pairs(), list(itertools.combinations(range(size), 2)))


class UnderTest(Case):

    def holds(self, order, p, q):
        """Look at an answer, and tell its kind."""
        answer = under(order, p, q)
        self.assertIs(type(answer), tuple)
        kind, found = answer
        heavier = [
            up for up in up_sets(order) if sum(fraction(p[at]) for at in up) > sum(fraction(q[at]) for at in up)
        ]
        if kind == "plan":
            self.judges(True, is_plan, p, q, found)
            self.assertEqual(list(found), sorted(found))
            self.are_shares(found.values())
            self.assertTrue(all(order.below(i, j) for i, j in found))
            self.assertEqual(heavier, [])
        else:
            self.assertEqual(kind, "set")
            self.assertIn(found, heavier)
        return kind

    def test_under(self):
        self.assertEqual(under(line(1), (1,), (1,)), ("plan", {(0, 0): 1}))
        self.assertEqual(under(line(2), (h, h), (0, 1)), ("plan", {(0, 1): h, (1, 1): h}))
        self.assertEqual(under(line(2), (0, 1), (h, h)), ("set", (1,)))
        self.assertEqual(under(DIAMOND, (0, 1, 0, 0), (0, 0, 1, 0))[0], "set")
        self.assertEqual(under(Order(2, []), (h, h), (h, h)), ("plan", {(0, 0): h, (1, 1): h}))

    def test_drawn_spreads(self):
        draw = source(134)
        kinds = {"plan": 0, "set": 0}
        for _ in range(250):
            size = draw.randint(1, 8)
            order = draw.choice([drawn_order(draw, size, 0.3), drawn_order(draw, size, 0.8), line(size)])
            p, q = drawn_spread(draw, size, 0.5), drawn_spread(draw, size, 0.5)
            if draw.random() < 0.5:
                # Move some of p upwards: then there is a plan.
                parts = list(p)
                for s, t in order.pairs():
                    part = parts[s] * S(draw.randint(0, 2), 2)
                    parts[s], parts[t] = parts[s] - part, parts[t] + part
                q = tuple(parts)
            kinds[self.holds(order, p, q)] += 1
        self.assertGreater(min(kinds.values()), 50)

    def test_little_more(self):
        little = S(1, 10 ** 12)
        self.assertEqual(self.holds(line(2), (h, h), (h, h)), "plan")
        self.assertEqual(self.holds(line(2), (h, h), (h - little, h + little)), "plan")
        self.assertEqual(self.holds(line(2), (h, h), (h + little, h - little)), "set")

    def test_bad_spread(self):
        for thing in odd_objects() + [(1, 0), (1, 0, 0, 0), (h, h, h), (2, -1, 0), [1, 0, 0], (True, 0, 0), (1, 0, False)]:
            self.refuses(BadSpread, {"part": "p"}, under, line(3), thing, (1, 0, 0))
            self.refuses(BadSpread, {"part": "p"}, under, line(3), thing, thing)
            self.refuses(BadSpread, {"part": "q"}, under, line(3), (1, 0, 0), thing)


if __name__ == "__main__":
    unittest.main()
