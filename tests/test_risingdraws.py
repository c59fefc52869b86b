"""[15.3]: draws by rising maps."""

import itertools
import unittest

from bothwalks.below import rising
from bothwalks.chains import Chain
from bothwalks.draws import Draw, is_draw_of
from bothwalks.errors import TooMany, Unlike
from bothwalks.orders import Order, line
from bothwalks.risingdraws import is_rising_weights, rising_draw
from tests.helpers import Case, S, all_pairs, drawn_chain, drawn_spread, fraction, h, odd_objects, source
from tests.test_chains import COIN, SWAP, THREE, one_state, ring
from tests.test_orders import DIAMOND, drawn_order

LITTLE = S(1, 10 ** 12)
# Each row is under those above it, but no draw keeps the diamond.
TORN = Chain(((h, h, 0, 0), (0, h, h, 0), (h, 0, 0, h), (0, h, 0, h)), ("a",) * 4)
SWAP_WEIGHTS = {(0, 0): -1, (0, 1): 1, (1, 0): 1, (1, 1): -1}


def rising_maps(order):
    """All rising maps, by a look at all maps."""
    size = order.size
    return [
        leads for leads in itertools.product(range(size), repeat=size)
        if all(order.below(leads[s], leads[t]) for s, t in order.pairs())
    ]


def is_right(chain, order, weights):
    """Whether weights from all pairs are as told, word by word."""
    for leads in rising_maps(order):
        if sum(fraction(weights[(s, to)]) for s, to in enumerate(leads)) > 0:
            return False
    return sum(fraction(weights[(s, t)]) * fraction(chain.row(s)[t]) for s, t in all_pairs(chain)) > 0


def drawn(seed, many):
    """Drawn chains with orders of their size."""
    draw = source(seed)
    for _ in range(many):
        size = draw.randint(1, 4)
        order = draw.choice([line(size), drawn_order(draw, size, 0.4), drawn_order(draw, size, 0.7)])
        if size == 4 and draw.random() < 0.4:
            order = DIAMOND
        chain = drawn_chain(draw, size, "ab", draw.choice([0.2, 0.6]))
        if draw.random() < 0.6:
            some = rising_maps(order)
            draw.shuffle(some)
            some = sorted(some[:draw.randint(1, 5)])
            chain = Chain(Draw(tuple(zip(drawn_spread(draw, len(some), 0), some))).rows(), ("a",) * size)
        yield chain, order


class RisingDrawTest(Case):

    def holds(self, chain, order):
        """Look at an answer, and tell its kind."""
        answer = rising_draw(chain, order)
        self.assertIs(type(answer), tuple)
        kind, found = answer
        if kind == "draw":
            self.assertIs(type(found), Draw)
            self.judges(True, is_draw_of, chain, found)
            for _, leads in found.parts:
                self.assertTrue(all(order.below(leads[s], leads[t]) for s, t in order.pairs()))
        else:
            self.assertEqual(kind, "weights")
            self.assertIs(type(found), dict)
            self.assertEqual(list(found), all_pairs(chain))
            self.are_shares(found.values())
            self.assertTrue(is_right(chain, order, found))
            self.judges(True, is_rising_weights, chain, order, found)
        return kind

    def test_rising_draw(self):
        self.assertEqual(rising_draw(one_state(), line(1)), ("draw", Draw(((1, (0,)),))))
        self.assertEqual(rising_draw(COIN, line(2))[0], "draw")
        self.assertEqual(rising_draw(SWAP, Order(2, [])), ("draw", Draw(((1, (1, 0)),))))
        for chain, order, kind in (
            (SWAP, line(2), "weights"), (THREE, line(3), "weights"), (COIN, line(2), "draw"), (ring(4), line(4), "weights"),
            (ring(4), Order(4, []), "draw"), (TORN, Order(4, []), "draw"), (TORN, DIAMOND, "weights"),
        ):
            self.assertEqual(self.holds(chain, order), kind)

    def test_drawn_chains(self):
        kinds = {"draw": 0, "weights": 0}
        for chain, order in drawn(161, 200):
            kind = self.holds(chain, order)
            kinds[kind] += 1
            if kind == "draw":
                self.assertIs(rising(chain, order), None)
            elif order == line(chain.size):
                self.assertIsNot(rising(chain, order), None)
        self.assertGreater(min(kinds.values()), 25)

    def test_on_a_line_it_is_rising(self):
        draw = source(162)
        found = {True: 0, False: 0}
        for _ in range(60):
            size = draw.randint(1, 4)
            chain = drawn_chain(draw, size, "a", 0.6)
            if draw.random() < 0.5:
                rows = sorted([chain.row(at) for at in range(size)], key=lambda row: [-fraction(share) for share in row])
                chain = Chain(tuple(rows), ("a",) * size)
            self.assertIs(rising(chain, line(size)) is None, self.holds(chain, line(size)) == "draw")
            found[rising(chain, line(size)) is None] += 1
        self.assertGreater(min(found.values()), 10)

    def test_on_other_orders_it_need_not_be(self):
        self.assertIs(rising(TORN, DIAMOND), None)
        self.assertEqual(self.holds(TORN, DIAMOND), "weights")

    def test_long_shares(self):
        digits = 10 ** 12
        rows = tuple((S(at, digits - at), S(7, digits), S(at + 3, digits + at)) for at in (10 ** 5, 10 ** 4, 10 ** 3))
        chain = Chain(tuple(row + (1 - row[0] - row[1] - row[2],) for row in rows) + ((0, 0, 0, 1),), ("a",) * 4)
        for order in (line(4), DIAMOND, Order(4, [])):
            self.holds(chain, order)

    def test_errors_in_turn(self):
        for many in (5, 8):
            for order in (line(many), line(4), line(1)):
                self.refuses(TooMany, {"limit": 4}, rising_draw, ring(many), order)
        for chain, order in ((COIN, line(3)), (ring(4), line(5)), (ring(4), line(3)), (one_state(), line(2))):
            self.refuses(Unlike, {}, rising_draw, chain, order)


class IsRisingWeightsTest(Case):

    def test_right_ones(self):
        for weights in (
            SWAP_WEIGHTS, {pair: S(weight) for pair, weight in SWAP_WEIGHTS.items()},
            {pair: LITTLE * weight for pair, weight in SWAP_WEIGHTS.items()}, {**SWAP_WEIGHTS, (0, 1): LITTLE - 1},
            {**SWAP_WEIGHTS, (0, 0): -5}, {(0, 0): 4, (0, 1): 6, (1, 0): -4, (1, 1): -6}, {**SWAP_WEIGHTS, (1, 1): -2},
        ):
            self.judges(is_right(SWAP, line(2), weights), is_rising_weights, SWAP, line(2), weights)
        self.judges(True, is_rising_weights, SWAP, line(2), SWAP_WEIGHTS)
        self.judges(True, is_rising_weights, SWAP, line(2), {**SWAP_WEIGHTS, (0, 0): -5, (1, 1): -3})

    def test_wrong_ones(self):
        for weights in (
            {**SWAP_WEIGHTS, (0, 0): LITTLE - 1}, {**SWAP_WEIGHTS, (1, 1): LITTLE - 1}, {**SWAP_WEIGHTS, (0, 1): 1 + LITTLE},
            {**SWAP_WEIGHTS, (0, 1): -1}, {pair: 0 for pair in SWAP_WEIGHTS}, {pair: -w for pair, w in SWAP_WEIGHTS.items()},
            {**SWAP_WEIGHTS, (0, 0): "-1"}, {**SWAP_WEIGHTS, (0, 0): None}, {**SWAP_WEIGHTS, (0, 1): True},
            {**SWAP_WEIGHTS, (0, 2): 0}, {**SWAP_WEIGHTS, (2, 0): 0}, {**SWAP_WEIGHTS, "ab": 0}, {}, list(SWAP_WEIGHTS.items()),
        ):
            self.judges(False, is_rising_weights, SWAP, line(2), weights)
        self.judges(False, is_rising_weights, SWAP, Order(2, []), SWAP_WEIGHTS)
        self.judges(False, is_rising_weights, COIN, line(2), SWAP_WEIGHTS)
        self.judges(False, is_rising_weights, THREE, line(3), SWAP_WEIGHTS)
        for pair in SWAP_WEIGHTS:
            lacking = {other: weight for other, weight in SWAP_WEIGHTS.items() if other != pair}
            self.judges(False, is_rising_weights, SWAP, line(2), lacking)
            for key in ((bool(pair[0]), pair[1]), (pair[0], bool(pair[1])), pair + (0,), 0):
                self.judges(False, is_rising_weights, SWAP, line(2), {**lacking, key: SWAP_WEIGHTS[pair]})

    def test_other_objects(self):
        for thing in odd_objects():
            self.judges(False, is_rising_weights, SWAP, line(2), thing)
            low = isinstance(thing, (int, S)) and not isinstance(thing, bool) and (S(1) + thing).less(LITTLE)
            self.judges(low, is_rising_weights, SWAP, line(2), {**SWAP_WEIGHTS, (0, 0): thing})

    def test_word_by_word(self):
        draw = source(163)
        told = {True: 0, False: 0}
        for chain, order in drawn(164, 100):
            kind, found = rising_draw(chain, order)
            for _ in range(4):
                if kind == "weights":
                    weights = dict(found)
                    pair = draw.choice(list(weights))
                    weights[pair] = weights[pair] + draw.choice([0, 0, 1, -1]) * S(1, draw.randint(1, 9))
                else:
                    weights = {pair: S(draw.randint(-9, 3), 3) for pair in all_pairs(chain)}
                right = is_right(chain, order, weights)
                told[right] += 1
                self.judges(right, is_rising_weights, chain, order, weights)
                if right:
                    self.assertEqual(kind, "weights")
        self.assertGreater(min(told.values()), 30)


if __name__ == "__main__":
    unittest.main()
