"""[4.1] and [4.2]: chains, and chains put together."""

import unittest

from bothwalks.chains import Chain, beside, onto, product
from bothwalks.errors import BadChain, BadStates, NoState, TooMany
from tests.helpers import Case, S, drawn_chain, fractions, h, odd_objects, source

THREE = Chain(((0, h, h), (0, 1, 0), (0, 0, 1)), ("a", "a", "b"))
COIN = Chain(((h, h), (h, h)), ("a", "b"))
SWAP = Chain(((0, 1), (1, 0)), ("a", "a"))


def one_state(label="a"):
    return Chain(((1,),), (label,))


def ring(many):
    """A chain that goes round its states, in letters of the alphabet."""
    rows = tuple(tuple(int(to == (state + 1) % many) for to in range(many)) for state in range(many))
    return Chain(rows, tuple("abcdefgh"[:many]))


class ChainCase(Case):

    def holds(self, chain, rows, labels):
        self.assertIs(type(chain), Chain)
        self.assertEqual(chain.size, len(rows))
        for state, row in enumerate(rows):
            self.assertIs(type(chain.row(state)), tuple)
            self.are_shares(chain.row(state))
            self.assertEqual(chain.row(state), tuple(row))
            self.assertEqual(chain.label(state), labels[state])


class ChainTest(ChainCase):

    def test_it_holds_what_was_passed(self):
        self.holds(THREE, ((0, h, h), (0, 1, 0), (0, 0, 1)), "aab")
        self.holds(one_state("abcdefgh"), ((1,),), ("abcdefgh",))
        self.holds(ring(8), [[int(to == (state + 1) % 8) for to in range(8)] for state in range(8)], "abcdefgh")

    def test_the_size_is_set_at_the_begin(self):
        self.assertEqual(vars(THREE)["size"], 3)

    def test_bad_rows(self):
        for rows in odd_objects() + [
            (), ((1, 0),), ((1, 0), (0, 1, 0)), ((1, 0), (h, S(1, 3))), ((1, 0), (2, -1)), ((1, 0), [0, 1]),
            [(1, 0), (0, 1)], ((1, 0), (False, 1)), ((True, 0), (0, 1)), ((1, 0), None), ((0, 0), (0, 0)),
            tuple((1,) + (0,) * 8 for _ in range(9)),
        ]:
            self.refuses(BadChain, {"part": "rows"}, Chain, rows, ("a", "b"))
        for thing in odd_objects():
            self.refuses(BadChain, {"part": "rows"}, Chain, ((1, 0), thing), ("a", "b"))

    def test_bad_labels(self):
        rows = ((1, 0), (0, 1))
        for labels in odd_objects() + [
            ("a",), ("a", "b", "c"), ["a", "b"], "ab", ("a", ""), ("a", "abcdefghi"), ("A", "b"), ("a", "b1"),
            ("a", "b "), ("a", 1), ("a", b"b"), ("a", None), ("a", "\xe4"), ("a", "b\n"), ("a", ("b",)), (), ("a", "`"),
            ("a", "{"),
        ]:
            self.refuses(BadChain, {"part": "labels"}, Chain, rows, labels)
        for thing in odd_objects():
            if thing != "a":
                self.refuses(BadChain, {"part": "labels"}, Chain, rows, ("a", thing))

    def test_rows_are_looked_at_ahead_of_labels(self):
        self.refuses(BadChain, {"part": "rows"}, Chain, ((2,),), (1,))

    def test_no_state(self):
        for thing in odd_objects() + [2, -1, 3, S(0), S(1), "0", (0,), 0j]:
            for call in (COIN.row, COIN.label):
                self.refuses(NoState, {"state": thing}, call, thing)
            self.refuses(NoState, {"state": thing}, COIN.with_row, thing, (h, h))
            self.refuses(NoState, {"state": thing}, COIN.with_row, thing, None)
            self.refuses(NoState, {"state": thing}, COIN.with_label, thing, "a")
            self.refuses(NoState, {"state": thing}, COIN.with_label, thing, None)

    def test_equal_if_rows_and_labels_are(self):
        self.assertIs(Chain(((S(2, 4), h), (h, h)), ("a", "b")) == COIN, True)
        self.assertIs(Chain(((S(1),),), ("a",)) == one_state(), True)
        self.assertIs(Chain(((h, h), (h, h)), ("a", "c")) == COIN, False)
        self.assertIs(Chain(((h, h), (1, 0)), ("a", "b")) == COIN, False)
        self.assertIs(Chain(((h, h), (1, 0)), ("a", "b")) != COIN, True)
        self.assertIs(one_state() == COIN, False)
        for thing in odd_objects():
            if not isinstance(thing, Chain):
                self.assertIs(COIN == thing, False)
                self.assertIs(COIN != thing, True)

    def test_with_row(self):
        for state, spread in ((0, (1, 0)), (1, (S(1, 3), S(2, 3)))):
            rows = [COIN.row(0), COIN.row(1)]
            rows[state] = spread
            self.holds(COIN.with_row(state, spread), rows, "ab")
        self.holds(COIN, ((h, h), (h, h)), "ab")
        self.holds(THREE.with_row(1, (0, 0, 1)), ((0, h, h), (0, 0, 1), (0, 0, 1)), "aab")
        for thing in odd_objects() + [(1,), (1, 0, 0), (h, S(1, 3)), [1, 0], (True, 0)]:
            self.refuses(BadChain, {"part": "rows"}, COIN.with_row, 1, thing)

    def test_with_label(self):
        self.holds(COIN.with_label(0, "xyz"), ((h, h), (h, h)), ("xyz", "b"))
        self.holds(THREE.with_label(2, "a"), ((0, h, h), (0, 1, 0), (0, 0, 1)), "aaa")
        self.holds(THREE.with_label(1, "q"), ((0, h, h), (0, 1, 0), (0, 0, 1)), "aqb")
        self.holds(COIN, ((h, h), (h, h)), "ab")
        for thing in odd_objects() + ["", "abcdefghi", "A"]:
            if thing != "a":
                self.refuses(BadChain, {"part": "labels"}, COIN.with_label, 1, thing)


class TogetherTest(ChainCase):

    def test_beside(self):
        made = beside(THREE, COIN)
        self.holds(made, (
            (0, h, h, 0, 0), (0, 1, 0, 0, 0), (0, 0, 1, 0, 0), (0, 0, 0, h, h), (0, 0, 0, h, h),
        ), "aabab")
        self.holds(beside(one_state("x"), one_state("y")), ((1, 0), (0, 1)), "xy")

    def test_beside_of_8_and_more_states(self):
        self.assertEqual(beside(ring(3), ring(5)).size, 8)
        self.assertEqual(beside(ring(7), one_state()).size, 8)
        for one, other in ((ring(8), one_state()), (one_state(), ring(8)), (ring(4), ring(5)), (ring(8), ring(8))):
            self.refuses(TooMany, {"limit": 8}, beside, one, other)

    def test_product(self):
        made = product(THREE, SWAP)
        self.assertEqual(made.size, 6)
        for s in range(3):
            for t in range(2):
                row = made.row(s * 2 + t)
                self.are_shares(row)
                self.assertEqual(made.label(s * 2 + t), "aab"[s] + "aa"[t])
                for i in range(3):
                    for j in range(2):
                        self.assertEqual(row[i * 2 + j], THREE.row(s)[i] * SWAP.row(t)[j])
        self.holds(product(SWAP, COIN), (
            (0, 0, h, h), (0, 0, h, h), (h, h, 0, 0), (h, h, 0, 0),
        ), ("aa", "ab", "aa", "ab"))

    def test_labels_of_pairs_are_cut(self):
        for first, second, label in (
            ("abcdef", "ghijkl", "abcdefgh"), ("abcdefgh", "x", "abcdefgh"), ("a", "bcdefgh", "abcdefgh"),
            ("a", "bcdefghi"[:7], "abcdefgh"), ("abcd", "efgh", "abcdefgh"), ("ab", "c", "abc"),
            ("a", "bcdefghx", "abcdefgh"),
        ):
            self.assertEqual(product(one_state(first), one_state(second)).label(0), label)

    def test_product_of_8_and_more_states(self):
        self.assertEqual(product(ring(4), ring(2)).size, 8)
        self.assertEqual(product(ring(8), one_state()).size, 8)
        for one, other in ((ring(3), ring(3)), (ring(8), ring(2)), (ring(2), ring(5))):
            self.refuses(TooMany, {"limit": 8}, product, one, other)

    def test_onto(self):
        self.holds(onto(THREE, (1,)), ((1,),), "a")
        self.holds(onto(THREE, (2, 1)), ((1, 0), (0, 1)), "ba")
        self.holds(onto(THREE, (1, 2, 0)), ((1, 0, 0), (0, 1, 0), (h, h, 0)), "aba")
        self.assertEqual(onto(THREE, (0, 1, 2)), THREE)
        mixed = beside(COIN, ring(3))
        self.assertEqual(onto(mixed, (0, 1)), COIN)
        self.assertEqual(onto(mixed, (2, 3, 4)), ring(3))
        self.holds(onto(mixed, (4, 2, 3)), ((0, 1, 0), (0, 0, 1), (1, 0, 0)), "cab")

    def test_bad_states(self):
        for thing in odd_objects() + [
            (), (0,), (0, 1), (0, 2), (1, 1), (1, 2, 1), [1], (3,), (1, 3), (-1,), (True,), (1, False), (S(1),), ("1",),
            {1: 1}, ((1,),), (1, None), range(1, 2),
        ]:
            self.refuses(BadStates, {}, onto, THREE, thing)

    def test_drawn_chains(self):
        draw = source(21)
        for _ in range(20):
            one, other = drawn_chain(draw, 2), drawn_chain(draw, draw.randint(1, 4))
            both = beside(one, other)
            self.assertEqual(onto(both, tuple(range(2))), one)
            self.assertEqual(onto(both, tuple(range(2, both.size))), other)
            pairs = product(one, other)
            for state in range(pairs.size):
                self.assertEqual(sum(fractions(pairs.row(state))), 1)


if __name__ == "__main__":
    unittest.main()
