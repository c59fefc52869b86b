"""[10.1] and [10.2]: meeting soonest."""

import unittest

from bothwalks.carrying import carry
from bothwalks.chains import Chain, beside
from bothwalks.errors import TooMany
from bothwalks.meeting import never_meet, soonest, soonest_ties
from bothwalks.ties import close_ties, free_ties, is_ties, tied_mean
from bothwalks.waiting import is_meeting_paper, is_waiting_paper, meeting_paper, waiting_paper
from tests.helpers import (
    Case, S, all_pairs, drawn_chain, fraction, fractions, h, least_of, small_chains, source, unlike_pairs,
)
from tests.test_chains import COIN, SWAP, THREE, one_state, ring

# 0 and 1 go to 2 and 3 by halves, where walks stay: only well tied they surely meet.
FORK = Chain(((0, 0, h, h), (0, 0, h, h), (0, 0, 1, 0), (0, 0, 0, 1)), ("a", "a", "a", "b"))
# 1 comes to 0 step by step, 2 goes ahead to 1 or stays.
LATE = Chain(((1, 0, 0), (h, h, 0), (0, S(1, 3), S(2, 3))), ("a", "b", "c"))


def drawn(seed, many, sizes):
    """Chains drawn from a seed, of these sizes."""
    draw = source(seed)
    for _ in range(many):
        yield drawn_chain(draw, draw.choice(sizes), "ab", draw.choice([0.2, 0.5, 0.7]))


def sparse(seed, many):
    """Chains of 4 states whose rows are 0 but for one state or two."""
    draw = source(seed)
    for _ in range(many):
        rows = []
        for _ in range(4):
            one, other = draw.randrange(4), draw.randrange(4)
            rows.append(tuple(h * int(to == one) + h * int(to == other) for to in range(4)))
        yield Chain(tuple(rows), ("a",) * 4)


def splits(chain, s, t, inside, goals):
    """Whether some tie of both leads inside alone, and to a goal with some share.

    By sets: what is sent from some states must find place where they may go, and there
    must be place to spare wherever a bit that goes to the goal takes some away.
    """
    p, q = fractions(chain.row(s)), fractions(chain.row(t))
    states = range(chain.size)
    for i, j in goals:
        if (i, j) in inside and p[i] and q[j] and all(roomy(p, q, part, inside, i, j) for part in sets(states)):
            return True
    return False


def sets(states):
    found = [()]
    for state in states:
        found += [part + (state,) for part in found]
    return found


def roomy(p, q, part, inside, i, j):
    near = {v for u in part for v in range(len(q)) if (u, v) in inside}
    room = sum(q[v] for v in near) - sum(p[u] for u in part)
    return room > 0 if j in near and i not in part else room >= 0


def surely(chain):
    """The pairs from which some ties surely meet, by sets alone."""
    inside = set(all_pairs(chain))
    while True:
        goals = {(s, s) for s in range(chain.size)}
        grown = True
        while grown:
            more = {(s, t) for s, t in inside - goals if splits(chain, s, t, inside, goals)}
            goals, grown = goals | more, bool(more)
        if goals == inside:
            return inside
        inside = goals


class SoonestTest(Case):

    def test_soonest(self):
        self.assertEqual(soonest(one_state()), {(0, 0): 0})
        self.assertEqual(soonest(COIN), {(0, 0): 0, (0, 1): 1, (1, 0): 1, (1, 1): 0})
        self.assertEqual(soonest(SWAP), {(0, 0): 0, (0, 1): None, (1, 0): None, (1, 1): 0})
        self.assertEqual(soonest(THREE), {
            (0, 0): 0, (0, 1): None, (0, 2): None, (1, 0): None, (1, 1): 0, (1, 2): None, (2, 0): None, (2, 1): None,
            (2, 2): 0,
        })
        self.assertEqual(soonest(FORK)[(0, 1)], 1)
        self.assertIs(soonest(FORK)[(0, 2)], None)
        self.assertEqual(soonest(LATE)[(0, 1)], 2)
        self.assertEqual(soonest(LATE)[(0, 2)], 5)

    def test_no_ties_are_better(self):
        for chain in drawn(107, 12, (4, 5)):
            found = soonest(chain)
            for ties in (free_ties(chain), close_ties(chain)):
                for s, t in all_pairs(chain):
                    mean = tied_mean(chain, ties, s, t)
                    self.assertFalse(found[(s, t)] is None and mean is not None)
                    self.assertFalse(mean is not None and mean.less(found[(s, t)]))

    def test_it_is_the_least_over_all_ties(self):
        some, nones = 0, 0
        for chain, ties in small_chains(101, 18, ("a",)):
            found = soonest(chain)
            self.assertEqual(list(found), all_pairs(chain))
            for s, t in all_pairs(chain):
                least = least_of([tied_mean(chain, these, s, t) for these in ties])
                if least is None:
                    self.assertIs(found[(s, t)], None)
                    nones += 1
                else:
                    self.is_share(found[(s, t)])
                    self.assertEqual(fraction(found[(s, t)]), least)
                    some += s != t
        self.assertGreater(min(some, nones), 20)

    def test_the_equations(self):
        for chain in drawn(102, 20, (2, 3, 4, 5)):
            found = soonest(chain)
            far = 10 ** 30
            costs = {pair: far if found[pair] is None else found[pair] for pair in found}
            for s, t in all_pairs(chain):
                if s == t:
                    self.is_share(found[(s, t)])
                    self.assertEqual(found[(s, t)], 0)
                else:
                    cost = carry(chain.row(s), chain.row(t), costs)[0]
                    if found[(s, t)] is not None:
                        self.assertEqual(found[(s, t)], cost + 1)
                    else:
                        self.assertFalse(cost.less(10 ** 20))

    def test_papers_bound_it_from_both_sides(self):
        whole = 0
        for chain in drawn(103, 25, (3, 4, 5)):
            found = soonest(chain)
            for s, t in unlike_pairs(chain):
                if found[(s, t)] is not None:
                    paper = meeting_paper(chain, s, t)
                    self.judges(True, is_meeting_paper, chain, paper)
                    self.assertEqual(paper[(s, t)][0], found[(s, t)])
            if None not in list(found.values()):
                paper = waiting_paper(chain)
                self.judges(True, is_waiting_paper, chain, paper)
                self.assertEqual({pair: paper[pair][0] for pair in paper}, found)
                whole += 1
        self.assertGreater(whole, 5)

    def test_labels_mean_nothing(self):
        for chain in drawn(104, 5, (3, 4)):
            self.assertEqual(soonest(chain), soonest(chain.with_label(0, "zzz").with_label(1, "y")))

    def test_long_shares(self):
        long = S(1, 3)
        for _ in range(6):
            long = long * long + S(1, 7)
        chain = Chain(((long, 1 - long), (1 - long, long)), ("a", "a"))
        self.assertGreater(long.bottom, 10 ** 40)
        self.assertEqual(soonest(chain)[(0, 1)], S(1).over(2 * long if long.less(h) else 2 - 2 * long))


class SoonestTiesTest(Case):

    def test_soonest_ties(self):
        self.assertEqual(soonest_ties(one_state()), {})
        for chain in list(drawn(105, 30, (2, 3, 4, 5))) + [COIN, SWAP, THREE, FORK, LATE]:
            ties, found = soonest_ties(chain), soonest(chain)
            self.judges(True, is_ties, chain, ties)
            self.assertEqual(list(ties), unlike_pairs(chain))
            for s, t in all_pairs(chain):
                self.assertEqual(tied_mean(chain, ties, s, t), found[(s, t)])
                if s != t:
                    self.assertEqual(list(ties[(s, t)]), sorted(ties[(s, t)]))
                    self.are_shares(ties[(s, t)].values())


class NeverMeetTest(Case):

    def test_never_meet(self):
        self.assertEqual(never_meet(one_state()), [])
        self.assertEqual(never_meet(COIN), [])
        self.assertEqual(never_meet(SWAP), [(0, 1), (1, 0)])
        self.assertEqual(never_meet(THREE), unlike_pairs(THREE))
        self.assertEqual(never_meet(FORK), [pair for pair in unlike_pairs(FORK) if pair not in ((0, 1), (1, 0))])
        self.assertEqual(never_meet(ring(5)), unlike_pairs(ring(5)))
        self.assertEqual(never_meet(beside(LATE, one_state())), [
            (0, 3), (1, 3), (2, 3), (3, 0), (3, 1), (3, 2),
        ])

    def test_by_sets(self):
        parted = 0
        for chain in list(drawn(106, 30, (3, 4))) + list(sparse(108, 40)) + [ring(4)]:
            sure = surely(chain)
            never = never_meet(chain)
            self.assertEqual(never, [pair for pair in unlike_pairs(chain) if pair not in sure])
            found = soonest(chain)
            self.assertEqual(never, [pair for pair in all_pairs(chain) if found[pair] is None])
            parted += 0 < len(never) < len(unlike_pairs(chain))
        self.assertGreater(parted, 10)


class ErrorsTest(Case):

    def test_too_many(self):
        self.assertEqual(len(soonest(ring(5))), 25)
        for many in (6, 7, 8):
            for call in (soonest, soonest_ties, never_meet, waiting_paper):
                self.refuses(TooMany, {"limit": 5}, call, ring(many))
            for s, t in ((0, 1), (0, 0), (9, None), (True, 0), ([], {})):
                self.refuses(TooMany, {"limit": 5}, meeting_paper, ring(many), s, t)


if __name__ == "__main__":
    unittest.main()
