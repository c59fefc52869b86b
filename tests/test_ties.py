"""[7.1] to [7.3]: ties of two walks."""

import unittest
from fractions import Fraction

from bothwalks.chains import Chain, beside
from bothwalks.errors import BadSteps, BadTies, NoState
from bothwalks.ties import close_ties, free_ties, is_ties, tied_after, tied_differ, tied_mean
from bothwalks.walking import after, apart
from tests.helpers import Case, S, drawn_chain, fraction, h, odd_objects, source
from tests.test_chains import COIN, SWAP, THREE, one_state, ring

WORKERS = (
    (tied_after, (3,)), (tied_mean, ()), (tied_differ, ()),
)


def all_pairs(chain):
    return [(s, t) for s in range(chain.size) for t in range(chain.size)]


def tie_of(chain, ties, pair):
    """Where both go from a pair, in fractions."""
    if pair[0] == pair[1]:
        return {(to, to): fraction(share) for to, share in enumerate(chain.row(pair[0])) if share != 0}
    return {to: fraction(amount) for to, amount in ties[pair].items()}


def ahead(chain, ties, pair, stops):
    """The pairs that may come, none behind one at which the walks stop."""
    found, waiting = {pair}, [pair]
    while waiting:
        place = waiting.pop()
        if place not in stops:
            for to in tie_of(chain, ties, place):
                if to not in found:
                    found.add(to)
                    waiting.append(to)
    return found


def drawn(seed, many, most=4):
    """Drawn chains, each with free ties, close ties, and ties half of the one and half of the other."""
    draw = source(seed)
    for _ in range(many):
        chain = drawn_chain(draw, draw.randint(1, most), draw.choice(["a", "ab", "abc"]), draw.choice([0.3, 0.7]))
        free, close = free_ties(chain), close_ties(chain)
        mixed = {}
        for pair in free:
            mixed[pair] = {
                to: (free[pair].get(to, 0) + close[pair].get(to, S(0))) * h
                for to in sorted(set(free[pair]) | set(close[pair]))
            }
        for ties in (free, close, mixed):
            yield chain, ties


class TiesTest(Case):

    def test_free_ties(self):
        self.assertEqual(free_ties(one_state()), {})
        self.assertEqual(free_ties(SWAP), {(0, 1): {(1, 0): 1}, (1, 0): {(0, 1): 1}})
        quarters = {(i, j): S(1, 4) for i in range(2) for j in range(2)}
        self.assertEqual(free_ties(COIN), {(0, 1): quarters, (1, 0): quarters})
        self.assertEqual(free_ties(THREE)[(0, 1)], {(1, 1): h, (2, 1): h})
        self.assertEqual(free_ties(THREE)[(2, 0)], {(2, 1): h, (2, 2): h})

    def test_close_ties(self):
        self.assertEqual(close_ties(one_state()), {})
        self.assertEqual(close_ties(SWAP), free_ties(SWAP))
        self.assertEqual(close_ties(COIN)[(0, 1)], {(0, 0): h, (1, 1): h})
        self.assertEqual(close_ties(THREE)[(0, 1)], {(1, 1): h, (2, 1): h})
        chain = Chain(((h, S(1, 3), S(1, 6)), (S(1, 6), S(1, 3), h), (0, h, h)), ("a", "a", "a"))
        self.assertEqual(close_ties(chain)[(0, 1)], {(0, 0): S(1, 6), (0, 2): S(1, 3), (1, 1): S(1, 3), (2, 2): S(1, 6)})
        self.assertEqual(
            close_ties(chain)[(0, 2)], {(0, 1): S(1, 6), (0, 2): S(1, 3), (1, 1): S(1, 3), (2, 2): S(1, 6)},
        )

    def test_drawn_ties_are_ties(self):
        for chain, ties in drawn(61, 25, 5):
            self.judges(True, is_ties, chain, ties)
            self.assertEqual(list(ties), [pair for pair in all_pairs(chain) if pair[0] != pair[1]])
            for tie in ties.values():
                self.assertEqual(list(tie), sorted(tie))
                self.are_shares(tie.values())

    def test_amounts_are_as_told(self):
        for chain, ties in drawn(62, 25, 5):
            free, close = free_ties(chain), close_ties(chain)
            for s, t in free:
                p, q = [fraction(x) for x in chain.row(s)], [fraction(x) for x in chain.row(t)]
                both = [min(one, other) for one, other in zip(p, q)]
                for i, j in all_pairs(chain):
                    amount = p[i] * q[j]
                    self.assertEqual(fraction(free[(s, t)].get((i, j), 0)), amount)
                    self.assertIs((i, j) in free[(s, t)], amount != 0)
                    amount = both[i] if i == j else Fraction(0)
                    if sum(both) < 1:
                        amount += (p[i] - both[i]) * (q[j] - both[j]) / (1 - sum(both))
                    self.assertEqual(fraction(close[(s, t)].get((i, j), 0)), amount)
                    self.assertIs((i, j) in close[(s, t)], amount != 0)

    def test_eight_states(self):
        chain = drawn_chain(source(63), 8, "ab", 0)
        for ties in (free_ties(chain), close_ties(chain)):
            self.assertEqual(len(ties), 56)
            self.judges(True, is_ties, chain, ties)
            self.is_share(tied_mean(chain, ties, 0, 7))
            self.is_share(tied_differ(chain, ties, 0, 7))

    def test_is_ties(self):
        for chain, thing in (
            (one_state(), {}), (SWAP, {(1, 0): {(0, 1): 1}, (0, 1): {(1, 0): S(1)}}),
            (COIN, {(0, 1): {(0, 0): h, (1, 1): h}, (1, 0): {(0, 1): h, (1, 0): h}}),
        ):
            self.judges(True, is_ties, chain, thing)
        right = {(0, 1): {(0, 0): h, (1, 1): h}, (1, 0): {(0, 1): h, (1, 0): h}}
        for thing in (
            {}, {(0, 1): right[(0, 1)]}, {**right, (0, 0): {(0, 0): h, (1, 1): h}}, {**right, (0, 1): {(0, 0): 1}},
            {**right, (0, 1): {}}, {**right, (0, 1): {(0, 0): h, (1, 1): h, (0, 1): 0}}, {**right, (1, 0): None},
            {(0, True): right[(0, 1)], (1, 0): right[(1, 0)]}, {(0, 1): right[(0, 1)], (1, False): right[(1, 0)]},
            {(False, 1): right[(0, 1)], (1, 0): right[(1, 0)]}, {(0, 1): right[(0, 1)], (True, 0): right[(1, 0)]},
            {**right, (0, 1): {(0, 0): h, (1, True): h}}, {**right, (0, 1): {(False, 0): h, (1, 1): h}},
            {**right, (0, 1): [((0, 0), h), ((1, 1), h)]}, sorted(right), {**right, (2, 1): {}}, {**right, "a": 1},
            {(0, 1): right[(0, 1)], (1, 2): right[(1, 0)]}, {(0, 1): right[(0, 1)], (1, 1): right[(1, 0)]},
            {**right, (0, 1): {(0, 0): h, (1, 1): h, (2, 2): h}}, {(0, 1): right[(0, 1)], (1, 0, 0): right[(1, 0)]},
        ):
            self.judges(False, is_ties, COIN, thing)
        self.judges(False, is_ties, one_state(), {(0, 0): {(0, 0): 1}})
        self.judges(False, is_ties, THREE, right)
        for thing in odd_objects():
            self.judges(False, is_ties, COIN, thing)
            self.judges(False, is_ties, COIN, {**right, (0, 1): thing})
            self.judges(thing == {} and isinstance(thing, dict), is_ties, one_state(), thing)


class TiedAfterTest(Case):

    def test_tied_after(self):
        free = free_ties(THREE)
        self.assertEqual(tied_after(THREE, free, 0, 1, 0), {(0, 1): 1})
        self.assertEqual(tied_after(THREE, free, 0, 1, 1), {(1, 1): h, (2, 1): h})
        self.assertEqual(tied_after(THREE, free, 0, 0, 1), {(1, 1): h, (2, 2): h})
        self.assertEqual(tied_after(SWAP, free_ties(SWAP), 0, 1, 30), {(0, 1): 1})
        self.assertEqual(tied_after(SWAP, free_ties(SWAP), 0, 1, 29), {(1, 0): 1})
        self.assertEqual(tied_after(one_state(), {}, 0, 0, 30), {(0, 0): 1})
        self.assertEqual(tied_after(SWAP, {(0, 1): {(1, 0): 1}, (1, 0): {(0, 1): 1}}, 0, 1, 1), {(1, 0): 1})

    def test_drawn_ties(self):
        for chain, ties in drawn(64, 15):
            for s, t in all_pairs(chain):
                now = {(s, t): Fraction(1)}
                for n in range(4):
                    answer = tied_after(chain, ties, s, t, n)
                    self.assertIs(type(answer), dict)
                    self.assertEqual(list(answer), sorted(now))
                    self.are_shares(answer.values())
                    self.assertEqual({pair: fraction(share) for pair, share in answer.items()}, now)
                    later = {}
                    for pair, share in now.items():
                        for to, amount in tie_of(chain, ties, pair).items():
                            later[to] = later.get(to, 0) + share * amount
                    now = later

    def test_each_walk_alone_goes_as_the_chain_tells(self):
        for chain, ties in drawn(65, 6):
            for s, t in all_pairs(chain):
                answer = tied_after(chain, ties, s, t, 5)
                for side, state in ((0, s), (1, t)):
                    alone = after(chain, tuple(int(at == state) for at in range(chain.size)), 5)
                    for at in range(chain.size):
                        share = sum([part for pair, part in answer.items() if pair[side] == at], S(0))
                        self.assertEqual(share, alone[at])

    def test_bad_steps(self):
        ties = free_ties(COIN)
        for thing in odd_objects() + [31, -1, S(3), "3"]:
            self.refuses(BadSteps, {"steps": thing}, tied_after, COIN, ties, 0, 1, thing)


class TiedMeanTest(Case):

    def test_tied_mean(self):
        for chain, ties, s, t, mean in (
            (COIN, free_ties(COIN), 0, 1, 2), (COIN, close_ties(COIN), 0, 1, 1), (COIN, free_ties(COIN), 1, 1, 0),
            (COIN, {(0, 1): {(0, 0): h, (1, 1): h}, (1, 0): {(0, 1): h, (1, 0): h}}, 1, 0, 3),
            (one_state(), {}, 0, 0, 0),
        ):
            self.is_share(tied_mean(chain, ties, s, t))
            self.assertEqual(tied_mean(chain, ties, s, t), mean)

    def test_none_if_it_is_not_sure(self):
        self.assertIs(tied_mean(SWAP, free_ties(SWAP), 0, 1), None)
        self.assertIs(tied_mean(THREE, free_ties(THREE), 0, 1), None)
        self.assertIs(tied_mean(beside(COIN, COIN), free_ties(beside(COIN, COIN)), 0, 2), None)
        stay = {(0, 1): {(0, 1): h, (1, 0): h}, (1, 0): {(0, 1): h, (1, 0): h}}
        self.assertIs(tied_mean(COIN, stay, 0, 1), None)
        self.assertIs(tied_mean(ring(5), free_ties(ring(5)), 4, 0), None)
        self.assertEqual(tied_mean(ring(5), free_ties(ring(5)), 4, 4), 0)

    def test_drawn_ties(self):
        nones = 0
        for chain, ties in drawn(66, 25):
            pairs = all_pairs(chain)
            found = {(s, t): tied_mean(chain, ties, s, t) for s, t in pairs}
            equal = {(s, s) for s in range(chain.size)}
            for pair in pairs:
                if pair in equal:
                    self.assertEqual(found[pair], 0)
                    continue
                on_the_way = ahead(chain, ties, pair, equal)
                sure = all(ahead(chain, ties, place, equal) & equal for place in on_the_way)
                self.assertIs(found[pair] is not None, sure)
                nones += not sure
                if sure:
                    self.is_share(found[pair])
                    steps = [amount * fraction(found[to]) for to, amount in tie_of(chain, ties, pair).items()]
                    self.assertEqual(fraction(found[pair]), 1 + sum(steps))
        self.assertGreater(nones, 10)


class TiedDifferTest(Case):

    def test_tied_differ(self):
        for chain, ties, s, t, share in (
            (THREE, free_ties(THREE), 0, 1, h), (THREE, free_ties(THREE), 0, 2, 1), (THREE, free_ties(THREE), 2, 2, 0),
            (SWAP, free_ties(SWAP), 0, 1, 0), (COIN, close_ties(COIN), 0, 1, 1), (COIN, close_ties(COIN), 1, 1, 0),
            (one_state(), {}, 0, 0, 0),
        ):
            self.is_share(tied_differ(chain, ties, s, t))
            self.assertEqual(tied_differ(chain, ties, s, t), share)

    def test_labels_may_differ_late(self):
        rows = ((0, S(1, 3), S(2, 3), 0), (h, 0, 0, h), (0, 0, 1, 0), (0, 0, 0, 1))
        chain = Chain(rows, ("a", "a", "a", "b"))
        ties = free_ties(chain)
        # From (0, 2) the first walk goes round 0 and 1 till it is at 2, or at 3.
        self.assertEqual(tied_differ(chain, ties, 0, 2), S(1, 5))
        self.assertEqual(tied_differ(chain, ties, 1, 2), S(3, 5))

    def test_drawn_ties(self):
        between = 0
        for chain, ties in drawn(67, 25):
            pairs = all_pairs(chain)
            unlike = {(s, t) for s, t in pairs if chain.label(s) != chain.label(t)}
            found = {(s, t): tied_differ(chain, ties, s, t) for s, t in pairs}
            for pair in pairs:
                self.is_share(found[pair])
                if pair in unlike:
                    self.assertEqual(found[pair], 1)
                elif not ahead(chain, ties, pair, unlike) & unlike:
                    self.assertEqual(found[pair], 0)
                else:
                    # With the ones above, these equations have one solution.
                    steps = [amount * fraction(found[to]) for to, amount in tie_of(chain, ties, pair).items()]
                    self.assertEqual(fraction(found[pair]), sum(steps))
                    between += 0 < fraction(found[pair]) < 1
        self.assertGreater(between, 10)


class ErrorsTest(Case):

    def test_no_state_comes_first(self):
        for call, more in WORKERS:
            for thing in odd_objects() + [2, -1, S(0)]:
                for ties in (free_ties(COIN), None):
                    self.refuses(NoState, {"state": thing}, call, COIN, ties, thing, 0, *more)
                    self.refuses(NoState, {"state": thing}, call, COIN, ties, 0, thing, *more)
                    self.refuses(NoState, {"state": thing}, call, COIN, ties, thing, 9, *more)

    def test_bad_ties(self):
        right = free_ties(COIN)
        wrong = [
            {(0, 1): right[(0, 1)]}, {**right, (0, 0): {(0, 0): h, (1, 1): h}}, {**right, (0, 1): {(0, 0): 1}},
            {(0, True): right[(0, 1)], (1, 0): right[(1, 0)]}, {}, free_ties(SWAP), free_ties(THREE),
        ]
        for call, more in WORKERS:
            for thing in odd_objects() + wrong:
                self.refuses(BadTies, {}, call, COIN, thing, 0, 1, *more)
                self.refuses(BadTies, {}, call, COIN, thing, 1, 1, *more)
            self.refuses(BadTies, {}, call, one_state(), {(0, 0): {(0, 0): 1}}, 0, 0, *more)
        self.refuses(BadTies, {}, tied_after, COIN, {}, 0, 1, 99)

    def test_close_ties_meet_in_a_step_as_far_as_can_be(self):
        for chain, ties in drawn(68, 20):
            close = close_ties(chain)
            for s, t in close:
                met = sum([share for pair, share in close[(s, t)].items() if pair[0] == pair[1]], S(0))
                self.assertEqual(met, 1 - apart(chain.row(s), chain.row(t)))


if __name__ == "__main__":
    unittest.main()
