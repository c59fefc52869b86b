"""[8.1] to [8.3]: distances."""

import itertools
import unittest

from bothwalks.carrying import carry
from bothwalks.chains import Chain, beside, onto
from bothwalks.errors import NoState, TooMany
from bothwalks.lumps import lumps
from bothwalks.near import best_ties, distance, distances
from bothwalks.papers import far_paper, is_far_paper, is_near_paper, near_paper
from bothwalks.seen import greatest_gap
from bothwalks.ties import close_ties, free_ties, is_ties, tied_differ
from tests.helpers import (
    Case, S, all_pairs, drawn_chain, fraction, h, least_of, odd_objects, small_chains, source, unlike_pairs,
)
from tests.test_chains import COIN, SWAP, THREE, one_state, ring
from tests.test_lumps import chains as doubled_chains

# 0 and 1 go to 2 and 3 by halves: tied well they are never apart.
FORK = Chain(((0, 0, h, h), (0, 0, h, h), (0, 0, 1, 0), (0, 0, 0, 1)), ("a", "a", "a", "b"))
# 0 and 1 come back to themselves; what they differ by grows step by step.
SLOW = Chain((
    (h, 0, S(1, 3), S(1, 6)), (0, S(2, 3), S(1, 3), 0), (0, 0, 1, 0), (0, 0, 0, 1),
), ("a", "a", "a", "b"))


def drawn(seed, many, sizes, names=("ab", "aab", "abc")):
    """Chains drawn from a seed, of these sizes."""
    draw = source(seed)
    for _ in range(many):
        yield drawn_chain(draw, draw.choice(sizes), draw.choice(names), draw.choice([0.2, 0.5]))


class DistancesTest(Case):

    def test_distances(self):
        self.assertEqual(distances(one_state()), {(0, 0): 0})
        self.assertEqual(distances(COIN), {(0, 0): 0, (0, 1): 1, (1, 0): 1, (1, 1): 0})
        self.assertEqual(distances(SWAP), {(0, 0): 0, (0, 1): 0, (1, 0): 0, (1, 1): 0})
        self.assertEqual(distance(THREE, 0, 1), h)
        self.assertEqual(distance(FORK, 0, 1), 0)
        self.assertEqual(distance(FORK, 0, 2), h)
        # Both stay with a half; with a third the one is at 2, with a sixth at 3, while the other one is not.
        self.assertEqual(distance(SLOW, 0, 1), S(1, 3))
        self.assertEqual(distance(SLOW, 1, 0), S(1, 3))
        self.assertEqual(distance(SLOW, 0, 2), S(1, 3))
        self.assertEqual(distance(SLOW, 1, 2), 0)
        self.assertEqual(distance(ring(6), 0, 3), 1)

    def test_they_are_the_least_over_all_ties(self):
        between = 0
        for chain, ties in small_chains(81, 14, ("ab", "aab", "aaab")):
            found = distances(chain)
            for s, t in all_pairs(chain):
                least = least_of([tied_differ(chain, some, s, t) for some in ties])
                self.assertEqual(fraction(found[(s, t)]), least)
                self.assertEqual(distance(chain, s, t), found[(s, t)])
                between += 0 < least < 1
        self.assertGreater(between, 10)

    def test_no_ties_are_better(self):
        for chain in drawn(82, 10, (4, 5)):
            found = distances(chain)
            for ties in (free_ties(chain), close_ties(chain)):
                for s, t in all_pairs(chain):
                    self.assertFalse(tied_differ(chain, ties, s, t).less(found[(s, t)]))

    def test_the_equations(self):
        for chain in drawn(83, 20, (2, 3, 4, 5, 6)):
            found = distances(chain)
            self.assertEqual(list(found), all_pairs(chain))
            self.are_shares(found.values())
            for s, t in all_pairs(chain):
                if chain.label(s) != chain.label(t):
                    self.assertEqual(found[(s, t)], 1)
                else:
                    self.assertEqual(found[(s, t)], carry(chain.row(s), chain.row(t), found)[0])

    def test_zero_exactly_in_a_lump(self):
        zeros = 0
        for chain in doubled_chains(84, 30):
            found = distances(chain)
            lump = {state: part for part in lumps(chain) for state in part}
            for s, t in all_pairs(chain):
                self.assertIs(found[(s, t)] == 0, lump[s] == lump[t])
                zeros += s != t and lump[s] == lump[t]
        self.assertGreater(zeros, 10)

    def test_the_least_solution(self):
        # 0 and 3 go round with 2 and 1: tied crosswise, they differ at once, and 1 is a solution, too.
        chain = Chain(((h, 0, h, 0), (0, 0, 0, 1), (1, 0, 0, 0), (0, h, 0, h)), ("a", "b", "b", "a"))
        for turn in itertools.permutations(range(4)):
            turned = onto(chain, turn)
            found = distances(turned)
            for s, t in all_pairs(turned):
                self.assertEqual(found[(s, t)], int(turned.label(s) != turned.label(t)))

    def test_a_distance(self):
        for chain in drawn(85, 15, (3, 4, 5)):
            found = distances(chain)
            for s, t in all_pairs(chain):
                self.assertEqual(found[(s, t)], found[(t, s)])
                for u in range(chain.size):
                    self.assertFalse((found[(s, t)] + found[(t, u)]).less(found[(s, u)]))

    def test_papers_bound_them_from_both_sides(self):
        for chain in drawn(86, 12, (4, 5, 6), ("ab", "aaab", "aabc")):
            found = distances(chain)
            far = far_paper(chain)
            self.judges(True, is_far_paper, chain, far)
            self.assertEqual({pair: far[pair][0] for pair in far}, found)
            for s, t in all_pairs(chain):
                paper = near_paper(chain, s, t)
                self.judges(True, is_near_paper, chain, paper)
                self.assertEqual(paper[(s, t)][0], found[(s, t)])

    def test_a_gap_is_at_most_the_distance(self):
        for chain in drawn(87, 10, (2, 3, 4)):
            found = distances(chain)
            for s, t in all_pairs(chain):
                for n in range(4):
                    self.assertFalse(found[(s, t)].less(greatest_gap(chain, s, t, n)))

    def test_chains_side_by_side(self):
        both = beside(THREE, Chain(((0, S(1, 3), S(2, 3)), (0, 1, 0), (0, 0, 1)), ("a", "a", "b")))
        self.assertEqual(distance(both, 0, 3), S(1, 6))
        self.assertEqual(distance(both, 1, 4), 0)
        self.assertEqual(distance(both, 1, 3), S(2, 3))

    def test_long_shares(self):
        long = S(1, 3)
        for _ in range(6):
            long = long * long + S(1, 7)
        self.assertGreater(long.bottom, 10 ** 40)
        chain = THREE.with_row(0, (0, long, 1 - long))
        self.assertEqual(distance(chain, 0, 1), 1 - long)
        digits = 10 ** 11
        rows = tuple(tuple(S(part, digits * 4) for part in (digits - at, digits + at, digits - 7, digits + 7))
                     for at in (3, 5, 11))
        chain = Chain(rows + ((0, 0, 0, 1),), ("a", "a", "a", "b"))
        self.judges(True, is_far_paper, chain, far_paper(chain))
        self.judges(True, is_near_paper, chain, near_paper(chain, 0, 1))


class BestTiesTest(Case):

    def test_best_ties(self):
        self.assertEqual(best_ties(one_state()), {})
        for chain in list(drawn(88, 15, (2, 3, 4, 5))) + [THREE, COIN, SWAP, FORK, SLOW] + list(doubled_chains(89, 10)):
            ties, found = best_ties(chain), distances(chain)
            self.judges(True, is_ties, chain, ties)
            self.assertEqual(list(ties), unlike_pairs(chain))
            for s, t in unlike_pairs(chain):
                self.assertEqual(list(ties[(s, t)]), sorted(ties[(s, t)]))
                self.are_shares(ties[(s, t)].values())
                self.assertEqual(tied_differ(chain, ties, s, t), found[(s, t)])


class ErrorsTest(Case):

    def test_too_many(self):
        self.assertEqual(distances(ring(6))[(0, 1)], 1)
        self.assertEqual(len(best_ties(ring(6))), 30)
        for many in (7, 8):
            for call in (distances, best_ties, far_paper):
                self.refuses(TooMany, {"limit": 6}, call, ring(many))
            for call in (distance, near_paper):
                for s, t in ((0, 1), (9, None), (True, 0), ([], {})):
                    self.refuses(TooMany, {"limit": 6}, call, ring(many), s, t)

    def test_no_state(self):
        for call in (distance, near_paper):
            for thing in odd_objects() + [3, -1, S(0), S(1), "0"]:
                self.refuses(NoState, {"state": thing}, call, THREE, thing, 0)
                self.refuses(NoState, {"state": thing}, call, THREE, 0, thing)
                self.refuses(NoState, {"state": thing}, call, THREE, thing, 9)
            self.refuses(NoState, {"state": 6}, call, ring(6), 0, 6)


if __name__ == "__main__":
    unittest.main()
