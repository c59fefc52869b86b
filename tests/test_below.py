"""[14.1] to [14.3]: walking below."""

import unittest

from bothwalks.below import below_ties, fall_paper, is_below_ties, is_fall_paper, kept_below, rising
from bothwalks.carrying import is_plan
from bothwalks.chains import Chain
from bothwalks.errors import Unlike
from bothwalks.orders import Order, line, up_sets
from tests.helpers import Case, S, all_pairs, drawn_chain, fraction, fractions, h, odd_objects, source
from tests.test_chains import COIN, SWAP, THREE, one_state, ring
from tests.test_orders import DIAMOND, drawn_order, tuples

LITTLE = S(1, 10 ** 12)
# On the line of 3, walks from 0 and 1 go apart only in the second step.
UP = Chain(((0, 1, 0), (0, h, h), (0, 0, 1)), ("a", "b", "c"))
DOWN = Chain(((1, 0, 0), (h, h, 0), (0, h, h)), ("a", "b", "c"))


def drawn(seed, many, most=4):
    """Drawn orders with two chains each, some of which are the same."""
    draw = source(seed)
    for _ in range(many):
        size = draw.randint(1, most)
        order = draw.choice([line(size), drawn_order(draw, size, 0.5), drawn_order(draw, size, 0.2)])
        one = drawn_chain(draw, size, "ab", draw.choice([0.3, 0.6, 0.8]))
        other = draw.choice([one, drawn_chain(draw, size, "ab", draw.choice([0.3, 0.6, 0.8])), lifted(draw, order, one)])
        yield order, one, other


def lifted(draw, order, chain):
    """A chain each of whose rows goes somewhat higher."""
    rows = []
    for state in range(chain.size):
        row = list(chain.row(state))
        for s, t in order.pairs():
            part = row[s] * S(draw.randint(0, 2), 2)
            row[s], row[t] = row[s] - part, row[t] + part
        rows.append(tuple(row))
    return Chain(tuple(rows), ("a",) * chain.size)


def carries(p, q, pairs):
    """Whether p can be carried to q by these pairs alone, by a look at all sets of states."""
    for part in tuples(len(p)):
        near = {v for u, v in pairs if u in part}
        if sum(fraction(p[u]) for u in part) > sum(fraction(q[v]) for v in near):
            return False
    return True


def kept(order, one, other):
    """The greatest set that holds, by sets of states alone."""
    pairs = {(s, t) for s, t in all_pairs(one) if order.below(s, t)}
    while True:
        left = {(s, t) for s, t in pairs if carries(one.row(s), other.row(t), pairs)}
        if left == pairs:
            return sorted(pairs)
        pairs = left


class KeptBelowTest(Case):

    def test_kept_below(self):
        self.assertEqual(kept_below(line(1), one_state(), one_state("b")), [(0, 0)])
        self.assertEqual(kept_below(line(2), COIN, COIN), [(0, 0), (0, 1), (1, 1)])
        self.assertEqual(kept_below(line(2), SWAP, SWAP), [(0, 0), (1, 1)])
        self.assertEqual(kept_below(line(3), UP, UP), [(0, 0), (0, 1), (0, 2), (1, 1), (1, 2), (2, 2)])
        self.assertEqual(kept_below(line(3), UP, DOWN), [])
        self.assertEqual(kept_below(line(3), DOWN, UP), [(0, 0), (0, 1), (0, 2), (1, 1), (1, 2), (2, 2)])
        self.assertEqual(kept_below(line(3), THREE, THREE), [(0, 0), (0, 2), (1, 1), (1, 2), (2, 2)])
        self.assertEqual(kept_below(Order(8, []), ring(8), ring(8)), [(at, at) for at in range(8)])
        self.assertEqual(kept_below(line(8), ring(8), ring(8)), [(at, at) for at in range(8)])

    def test_the_greatest_set(self):
        parted = 0
        for order, one, other in drawn(141, 150):
            right = kept(order, one, other)
            self.assertIs(type(kept_below(order, one, other)), list)
            self.assertEqual(kept_below(order, one, other), right)
            parted += 0 < len(right) < sum(order.below(s, t) for s, t in all_pairs(one))
        self.assertGreater(parted, 25)

    def test_each_set_that_holds_is_in_it(self):
        for order, one, other in drawn(142, 25, 3):
            pairs = [(s, t) for s, t in all_pairs(one) if order.below(s, t)]
            for part in tuples(len(pairs)):
                some = {pairs[at] for at in part}
                if all(carries(one.row(s), other.row(t), some) for s, t in some):
                    self.assertLessEqual(some, set(kept_below(order, one, other)))

    def test_eight_states(self):
        draw = source(143)
        for _ in range(6):
            order = drawn_order(draw, 8, 0.3)
            one = drawn_chain(draw, 8, "ab", 0.6)
            other = lifted(draw, order, one)
            found = kept_below(order, one, other)
            self.judges(True, is_below_ties, order, one, other, below_ties(order, one, other))
            self.judges(True, is_fall_paper, order, one, other, fall_paper(order, one, other))
            self.assertEqual(sorted(found + list(fall_paper(order, one, other))), all_pairs(one))


class BelowTiesTest(Case):

    def test_below_ties(self):
        self.assertEqual(below_ties(line(2), COIN, COIN)[(0, 1)], {(0, 0): h, (1, 1): h})
        self.assertEqual(below_ties(line(3), UP, DOWN), {})
        for order, one, other in drawn(144, 80):
            ties = below_ties(order, one, other)
            self.assertIs(type(ties), dict)
            self.assertEqual(list(ties), kept_below(order, one, other))
            self.judges(True, is_below_ties, order, one, other, ties)
            for (s, t), plan in ties.items():
                self.judges(True, is_plan, one.row(s), other.row(t), plan)
                self.assertEqual(list(plan), sorted(plan))
                self.are_shares(plan.values())
                self.assertTrue(all(to in ties for to in plan))

    def test_is_below_ties(self):
        order = line(2)
        right = {(0, 0): {(0, 0): h, (1, 1): h}, (0, 1): {(0, 1): h, (1, 1): S(1, 4), (0, 0): S(1, 4)}}
        right[(1, 1)] = right[(0, 0)]
        right[(0, 1)] = {(0, 0): h, (1, 1): h}
        for ties in (right, {}, {(0, 0): right[(0, 0)], (1, 1): right[(1, 1)]}):
            self.judges(True, is_below_ties, order, COIN, COIN, ties)
        for ties in (
            {(0, 0): right[(0, 0)]}, {(0, 0): right[(0, 0)], (0, 1): right[(0, 1)]},
            {**right, (1, 0): {(0, 0): h, (1, 1): h}}, {**right, (0, 1): {(0, 1): h, (1, 0): h}}, {**right, (0, 1): {}},
            {**right, (0, 1): {(0, 0): 1}}, {**right, (0, 1): {(0, 0): h, (1, 1): h, (0, 1): 0}},
            {**right, (0, 1): {(0, 0): h, (1, True): h}}, {**right, (0, 2): {(0, 0): h, (1, 1): h}},
            {(0, 0): right[(0, 0)], (1, True): right[(1, 1)]}, {(False, 0): right[(0, 0)], (1, 1): right[(1, 1)]},
            {**right, 0: right[(0, 0)]}, {**right, "ab": {}}, {**right, (0, 1, 1): {}}, [], list(right.items()),
        ):
            self.judges(False, is_below_ties, order, COIN, COIN, ties)
        self.judges(False, is_below_ties, order.turned(), COIN, COIN, right)
        self.judges(False, is_below_ties, order, COIN, SWAP, right)
        self.judges(False, is_below_ties, order, SWAP, COIN, right)
        # The first walk goes by the first chain, the second one by the second.
        ends = {(0, 1): {(0, 1): 1}}
        low, high = Chain(((1, 0), (1, 0)), ("a", "a")), Chain(((0, 1), (0, 1)), ("a", "a"))
        self.judges(True, is_below_ties, order, low, high, ends)
        self.judges(False, is_below_ties, order, high, low, ends)
        for thing in odd_objects():
            self.judges(thing == {} and isinstance(thing, dict), is_below_ties, order, COIN, COIN, thing)
            self.judges(False, is_below_ties, order, COIN, COIN, {**right, (0, 1): thing})
            fits = isinstance(thing, S) and thing == h
            self.judges(fits, is_below_ties, order, COIN, COIN, {**right, (0, 1): {(0, 0): h, (1, 1): thing}})
            self.judges(False, is_below_ties, order, COIN, COIN, with_key(right, thing))


def with_key(paper, key):
    """The paper with one more key, if it can be one; otherwise None."""
    try:
        return {**paper, key: paper[(0, 1)]}
    except (TypeError, ValueError):
        return None


class FallPaperTest(Case):

    def test_fall_paper(self):
        self.assertEqual(fall_paper(line(1), one_state(), one_state()), {})
        self.assertEqual(fall_paper(line(2), SWAP, SWAP), {(0, 1): (1, (1,)), (1, 0): (0, ())})
        self.assertEqual(fall_paper(line(2), COIN, COIN), {(1, 0): (0, ())})

    def test_drawn_chains(self):
        later = 0
        for order, one, other in drawn(145, 120):
            paper = fall_paper(order, one, other)
            self.assertIs(type(paper), dict)
            keeps = kept_below(order, one, other)
            self.assertEqual(list(paper), [pair for pair in all_pairs(one) if pair not in keeps])
            self.judges(True, is_fall_paper, order, one, other, paper)
            for rank, states in paper.values():
                self.assertIs(type(rank), int)
                self.assertIs(type(states), tuple)
                later += rank > 1
        self.assertGreater(later, 20)

    def test_many_rounds(self):
        # Below 7 all walks go up by one; only from 7, beside 6 or 7, does it show.
        rows = tuple(tuple(int(to == min(state + 1, 7)) for to in range(8)) for state in range(8))
        climb = Chain(rows, ("a",) * 8)
        fall = climb.with_row(7, (1,) + (0,) * 7)
        self.assertEqual(kept_below(line(8), climb, fall), [])
        paper = fall_paper(line(8), climb, fall)
        self.assertEqual(len(paper), 64)
        self.judges(True, is_fall_paper, line(8), climb, fall, paper)
        self.assertGreater(max(rank for rank, _ in paper.values()), 7)
        self.assertEqual(len(kept_below(line(8), fall, climb)), 36)


def is_right(order, one, other, paper):
    """Whether a paper of the right form is a fall paper, word by word."""
    for (s, t), (rank, states) in paper.items():
        if rank == 0:
            if states != () or order.below(s, t):
                return False
            continue
        near = [u for u in range(one.size) if any(
            (a, u) not in paper or paper[(a, u)][0] >= rank for a in states
        )]
        p, q = fractions(one.row(s)), fractions(other.row(t))
        if sum(p[a] for a in states) <= sum(q[u] for u in near):
            return False
    return True


class IsFallPaperTest(Case):

    def test_right_and_wrong_ones(self):
        order = line(2)
        right = {(0, 1): (1, (1,)), (1, 0): (0, ())}
        for paper in (
            right, {}, {(1, 0): (0, ())}, {(0, 1): (5, (1,)), (1, 0): (0, ())}, {**right, (0, 1): (10 ** 30, (1,))},
        ):
            self.judges(True, is_fall_paper, order, SWAP, SWAP, paper)
        for paper in (
            {(0, 1): (1, (1,))}, {**right, (0, 1): (0, ())}, {**right, (1, 0): (0, (0,))}, {**right, (0, 1): (1, ())},
            {**right, (0, 1): (1, (0,))}, {**right, (0, 1): (1, (0, 1))}, {**right, (0, 1): (1, (1, 1))},
            {**right, (0, 1): (1, (1, 0))}, {**right, (0, 1): (1, [1])}, {**right, (0, 1): (1, (True,))},
            {**right, (0, 1): (True, (1,))}, {**right, (1, 0): (False, ())}, {**right, (0, 1): (-1, (1,))},
            {**right, (0, 1): (S(1), (1,))}, {**right, (0, 1): (1, (2,))}, {**right, (0, 1): (1, (1, 2))},
            {**right, (0, 1): (1,)}, {**right, (0, 1): (1, (1,), 0)}, {**right, (0, 1): [1, (1,)]},
            {**right, (0, 0): (2, (1,))}, {**right, (0, 0): (0, ())}, {**right, (2, 0): (0, ())}, {**right, 0: (0, ())},
            {**right, "ab": (0, ())}, {**right, (1, 0, 0): (0, ())}, {(0, True): (1, (1,)), (1, 0): (0, ())},
            {(0, 1): (1, (1,)), (True, 0): (0, ())}, {(0, 1): (1, (1,)), (1, False): (0, ())}, list(right.items()),
            {(0, 1): (1, (1,)), (1, 0): (1, ())}, {(0, 1): (1, (1,)), (1, 0): (-1, ())}, {**right, (0, -1): (0, ())},
        ):
            self.judges(False, is_fall_paper, order, SWAP, SWAP, paper)
        for thing in odd_objects():
            self.judges(thing == {} and isinstance(thing, dict), is_fall_paper, order, SWAP, SWAP, thing)
            self.judges(False, is_fall_paper, order, SWAP, SWAP, {**right, (0, 1): thing})
            late = isinstance(thing, int) and not isinstance(thing, bool) and thing > 0
            self.judges(late, is_fall_paper, order, SWAP, SWAP, {**right, (0, 1): (thing, (1,))})
            self.judges(False, is_fall_paper, order, SWAP, SWAP, {**right, (0, 1): (1, thing)})
            self.judges(False, is_fall_paper, order, SWAP, SWAP, {**right, (0, 1): (1, (thing,))})
            empty = isinstance(thing, tuple) and not thing
            self.judges(empty, is_fall_paper, order, SWAP, SWAP, {**right, (1, 0): (0, thing)})
            self.judges(False, is_fall_paper, order, SWAP, SWAP, with_key(right, thing))

    def test_the_share_must_be_greater(self):
        order = line(2)
        for low, high, right in (
            (h, h, False), (h + LITTLE, h, True), (h, h + LITTLE, False), (h, h - LITTLE, True), (1, 0, True),
        ):
            one = Chain(((1 - low, low), (1 - low, low)), ("a", "a"))
            other = Chain(((1 - high, high), (1 - high, high)), ("a", "a"))
            self.judges(right, is_fall_paper, order, one, other, {(1, 0): (0, ()), (0, 1): (1, (1,))})
            self.judges(right, is_fall_paper, order, one, other, {(1, 0): (0, ()), (0, 0): (4, (1,))})

    def test_word_by_word(self):
        draw = source(146)
        told = {True: 0, False: 0}
        for order, one, other in drawn(147, 80):
            keeps = kept_below(order, one, other)
            for _ in range(6):
                paper = fall_paper(order, one, other)
                for pair in list(paper):
                    rank, states = paper[pair]
                    chance = draw.random()
                    if chance < 0.05:
                        del paper[pair]
                    elif chance < 0.15:
                        paper[pair] = (rank + draw.choice([-1, 1, 2]) if rank else draw.choice([0, 1]), states)
                    elif chance < 0.25:
                        paper[pair] = (rank, draw.choice(tuples(one.size)))
                if any(rank < 0 for rank, _ in paper.values()):
                    continue
                right = is_right(order, one, other, paper)
                told[right] += 1
                self.judges(right, is_fall_paper, order, one, other, paper)
                if right:
                    self.assertFalse(set(paper) & set(keeps))
        self.assertGreater(min(told.values()), 50)


class RisingTest(Case):

    def test_rising(self):
        self.assertIs(rising(one_state(), line(1)), None)
        self.assertEqual(rising(SWAP, line(2)), (0, 1, (1,)))
        self.assertIs(rising(COIN, line(2)), None)
        self.assertIs(rising(SWAP, Order(2, [])), None)
        self.assertEqual(rising(THREE, line(3)), (0, 1, (2,)))
        self.assertEqual(rising(ring(8), line(8)), (0, 7, (1, 2, 3, 4, 5, 6, 7)))

    def test_by_a_look_at_all(self):
        nones, some = 0, 0
        for order, chain, _ in drawn(148, 150):
            wrong = [
                (s, t, up) for s, t in order.pairs() for up in up_sets(order)
                if sum(fraction(chain.row(s)[at]) for at in up) > sum(fraction(chain.row(t)[at]) for at in up)
            ]
            answer = rising(chain, order)
            if wrong:
                self.assertEqual(answer, wrong[0])
                self.assertEqual(answer, min(wrong))
                some += 1
            else:
                self.assertIs(answer, None)
                nones += 1
            all_kept = [(s, t) for s, t in all_pairs(chain) if order.below(s, t)]
            self.assertIs(answer is None, kept_below(order, chain, chain) == all_kept)
        self.assertGreater(min(nones, some), 30)

    def test_diamond(self):
        chain = Chain(((1, 0, 0, 0), (0, h, h, 0), (0, h, h, 0), (0, 0, 0, 1)), ("a",) * 4)
        self.assertIs(rising(chain, DIAMOND), None)
        self.assertEqual(rising(chain.with_row(0, (0, 1, 0, 0)), DIAMOND), (0, 1, (1, 3)))


class ErrorsTest(Case):

    def test_unlike(self):
        for call in (kept_below, below_ties, fall_paper):
            for order, one, other in (
                (line(3), COIN, COIN), (line(2), COIN, THREE), (line(2), THREE, COIN), (line(2), THREE, THREE),
                (line(3), THREE, COIN), (line(1), COIN, COIN), (line(8), ring(8), ring(7)),
            ):
                self.refuses(Unlike, {}, call, order, one, other)
        for chain, order in ((COIN, line(3)), (THREE, line(2)), (ring(8), line(7)), (one_state(), line(2))):
            self.refuses(Unlike, {}, rising, chain, order)


if __name__ == "__main__":
    unittest.main()
