"""[5.1] and [5.2]: lumps."""

import unittest

from bothwalks.chains import Chain, beside
from bothwalks.lumps import is_lumping, lumped, lumps
from tests.helpers import Case, S, drawn_chain, fraction, h, odd_objects, source
from tests.test_chains import COIN, SWAP, THREE, one_state, ring

# 0 and 1 go to a and b by halves, in unlike ways; 4 goes otherwise.
MIXED = Chain((
    (0, 0, h, h, 0), (0, 0, S(1, 4), S(3, 4), 0), (0, 0, 1, 0, 0), (0, 0, 0, 1, 0), (0, 0, 1, 0, 0),
), ("a", "a", "b", "b", "a"))


def partitions(states):
    """All partitions of a list of states."""
    if not states:
        yield []
        return
    for parts in partitions(states[1:]):
        for at in range(len(parts)):
            yield parts[:at] + [[states[0]] + parts[at]] + parts[at + 1:]
        yield [[states[0]]] + parts


def is_right(chain, parts):
    for part in parts:
        if len({chain.label(state) for state in part}) > 1:
            return False
        for other in parts:
            if len({sum(fraction(chain.row(state)[to]) for to in other) for state in part}) > 1:
                return False
    return True


def chains(seed, many):
    """Drawn chains, some of them of states that were doubled."""
    draw = source(seed)
    for _ in range(many):
        size = draw.randint(1, 5)
        chain = drawn_chain(draw, size, draw.choice(["a", "ab"]), 0.5)
        if size < 5 and draw.random() < 0.6:
            double = draw.randrange(size)
            rows = []
            for state in list(range(size)) + [double]:
                row = chain.row(state)
                part = row[double] * S(draw.randint(0, 2), 2)
                rows.append(row[:double] + (row[double] - part,) + row[double + 1:] + (part,))
            chain = Chain(tuple(rows), tuple(chain.label(at) for at in list(range(size)) + [double]))
        yield chain


class LumpsTest(Case):

    def test_lumps(self):
        self.assertEqual(lumps(SWAP), [(0, 1)])
        self.assertEqual(lumps(THREE), [(0,), (1,), (2,)])
        self.assertEqual(lumps(COIN), [(0,), (1,)])
        self.assertEqual(lumps(one_state()), [(0,)])
        self.assertEqual(lumps(MIXED), [(0, 1, 4), (2, 3)])
        self.assertEqual(lumps(MIXED.with_label(3, "c")), [(0,), (1,), (2,), (3,), (4,)])
        self.assertEqual(lumps(MIXED.with_row(4, (h, 0, 0, h, 0))), [(0, 1), (2, 3), (4,)])
        self.assertEqual(lumps(beside(SWAP, one_state())), [(0, 1, 2)])
        self.assertEqual(lumps(Chain(((1, 0, 0), (0, 1, 0), (0, 0, 1)), ("b", "a", "b"))), [(0, 2), (1,)])
        self.assertEqual(lumps(ring(8)), [(state,) for state in range(8)])

    def test_a_difference_is_found_after_many_cuts(self):
        rows = tuple(tuple(int(to == min(state + 1, 7)) for to in range(8)) for state in range(8))
        self.assertEqual(lumps(Chain(rows, ("a",) * 7 + ("b",))), [(state,) for state in range(8)])
        self.assertEqual(lumps(Chain(rows, ("a",) * 8)), [tuple(range(8))])

    def test_the_coarsest_partition(self):
        doubled = 0
        for chain in chains(41, 60):
            right = [parts for parts in partitions(list(range(chain.size))) if is_right(chain, parts)]
            fewest = min(len(parts) for parts in right)
            coarsest = [sorted(tuple(part) for part in parts) for parts in right if len(parts) == fewest]
            self.assertEqual(len(coarsest), 1)
            self.assertEqual(lumps(chain), coarsest[0])
            doubled += fewest < chain.size
        self.assertGreater(doubled, 15)

    def test_lumped(self):
        self.assertEqual(lumped(SWAP), one_state())
        self.assertEqual(lumped(THREE), THREE)
        self.assertEqual(lumped(MIXED), Chain(((0, 1), (0, 1)), ("a", "b")))
        self.assertEqual(
            lumped(MIXED.with_row(4, (h, 0, 0, h, 0))), Chain(((0, 1, 0), (0, 1, 0), (h, h, 0)), ("a", "b", "a")),
        )

    def test_a_state_and_its_lump_are_of_one_lump(self):
        for chain in chains(42, 40):
            small = lumped(chain)
            if chain.size + small.size > 8:
                continue
            both = lumps(beside(chain, small))
            for at, part in enumerate(lumps(chain)):
                self.assertIn(part + (chain.size + at,), both)

    def test_is_lumping(self):
        for chain, thing in (
            (SWAP, [(0, 1)]), (SWAP, ((1, 0),)), (SWAP, [(1,), (0,)]), (SWAP, ((0,), (1,))), (THREE, [(2,), (0,), (1,)]),
            (MIXED, [(0, 1, 4), (2, 3)]), (MIXED, [(3, 2), (4, 0, 1)]), (MIXED, ((0,), (1, 4), (2, 3))),
            (MIXED, [(2,), (3,), (0,), (1,), (4,)]), (one_state(), ((0,),)),
        ):
            self.judges(True, is_lumping, chain, thing)
        for chain, thing in (
            (SWAP, []), (SWAP, [(0,)]), (SWAP, [(0, 1), ()]), (SWAP, [(0, 1), (0, 1)]), (SWAP, [(0, 1), (1,)]),
            (SWAP, [(0, 0, 1)]), (SWAP, [(0, 1, 2)]), (SWAP, [[0, 1]]), (SWAP, [(0, True)]), (SWAP, [(False, 1)]),
            (SWAP, (0, 1)), (SWAP, {(0, 1): 1}), (SWAP, {(0, 1)}), (SWAP, [(0, S(1))]), (SWAP, [(0, "1")]),
            (COIN, [(0, 1)]), (THREE, [(0, 1), (2,)]), (THREE, [(0,), (1, 2)]), (MIXED, [(0, 1, 4), (2,), (3,)]),
            (MIXED, [(0, 1, 2, 3, 4)]), (MIXED, [(0, 1), (2, 3), (-1,)]), (SWAP, [(0,), (1,), None]), (SWAP, [(0, -1)]),
        ):
            self.judges(False, is_lumping, chain, thing)

    def test_lumpings_of_drawn_chains(self):
        for chain in chains(43, 30):
            for parts in partitions(list(range(chain.size))):
                self.judges(is_right(chain, parts), is_lumping, chain, [tuple(part) for part in parts])

    def test_any_object_is_judged(self):
        for thing in odd_objects():
            self.judges(False, is_lumping, COIN, thing)
            self.judges(False, is_lumping, COIN, [thing])
            self.judges(False, is_lumping, COIN, [(0,), (1,), thing])
            self.judges(False, is_lumping, COIN, ((0,), (thing,)))


if __name__ == "__main__":
    unittest.main()
