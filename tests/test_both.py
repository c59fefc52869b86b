"""[19.1] and [19.2]: walking by given shares."""

import inspect
import itertools
import unittest

from bothwalks.both import Both, tried, walked
from bothwalks.chains import Chain
from bothwalks.errors import BadFactor, BadTies, NoState
from bothwalks.shares import pick
from bothwalks.ties import close_ties, free_ties, tied_after
from tests.helpers import Case, S, drawn_chain, fraction, h, odd_objects, source
from tests.test_chains import COIN, SWAP, THREE, one_state, ring

LITTLE = S(1, 10 ** 12)
# From (0, 1) to (0, 2) with a quarter, to (1, 0) with a half, to (2, 2) with a quarter.
FORK = Chain(((S(1, 4), h, S(1, 4)), (h, 0, h), (0, 0, 1)), ("a", "b", "c"))
FORKED = {**free_ties(FORK), (0, 1): {(2, 2): S(1, 4), (1, 0): h, (0, 2): S(1, 4)}}
WRONG = [0 - LITTLE, -1, 1, S(1), 1 + LITTLE, S(3, 2), True, False]


def state_of(walk):
    return walk.places, walk.steps, walk.met


def odd_shares():
    """Objects that are no share from 0 to below 1."""
    return [thing for thing in odd_objects() if not (isinstance(thing, S) and thing == h)] + WRONG


class BothTest(Case):

    def stands(self, walk, places, steps, met):
        self.assertEqual(state_of(walk), (places, steps, met))
        self.assertIs(type(walk.places), tuple)
        if met is None:
            self.assertIs(walk.met, None)

    def test_a_new_walk(self):
        walk = Both(COIN, free_ties(COIN), 0, 1)
        self.stands(walk, (0, 1), 0, None)
        self.assertLessEqual({"places", "steps", "met"}, set(vars(walk)))
        self.stands(Both(COIN, free_ties(COIN), 1, 1), (1, 1), 0, 0)
        self.stands(Both(one_state(), {}, 0, 0), (0, 0), 0, 0)

    def test_errors_in_turn(self):
        right = free_ties(COIN)
        for thing in odd_objects() + [2, -1, S(0)]:
            self.refuses(NoState, {"state": thing}, Both, COIN, right, thing, 0)
            self.refuses(NoState, {"state": thing}, Both, COIN, right, 0, thing)
            self.refuses(NoState, {"state": thing}, Both, COIN, None, thing, 9)
            self.refuses(NoState, {"state": thing}, Both, COIN, {}, 1, thing)
        for thing in odd_objects() + [
            {(0, 1): right[(0, 1)]}, {**right, (0, 0): {(0, 0): 1}}, {**right, (0, 1): {(0, 0): 1}},
            {(0, True): right[(0, 1)], (1, 0): right[(1, 0)]}, free_ties(THREE), list(right.items()),
            {**right, (1, 0): {(0, 0): h, (1, True): h}},
        ]:
            self.refuses(BadTies, {}, Both, COIN, thing, 0, 1)
            self.refuses(BadTies, {}, Both, COIN, thing, 1, 1)

    def test_steps_by_shares_about_a_sum(self):
        for share, to in (
            (0, (0, 2)), (S(0), (0, 2)), (LITTLE, (0, 2)), (S(1, 4) - LITTLE, (0, 2)), (S(1, 4), (1, 0)),
            (S(1, 4) + LITTLE, (1, 0)), (S(3, 4) - LITTLE, (1, 0)), (S(3, 4), (2, 2)), (S(3, 4) + LITTLE, (2, 2)),
            (1 - LITTLE, (2, 2)),
        ):
            walk = Both(FORK, FORKED, 0, 1)
            self.assertEqual(walk.step(share), to)
            self.stands(walk, to, 1, 1 if to == (2, 2) else None)
        for share, to in ((S(1, 4) - LITTLE, 0), (S(1, 4), 1), (S(3, 4) - LITTLE, 1), (S(3, 4), 2), (0, 0)):
            walk = Both(FORK, FORKED, 0, 0)
            self.assertEqual(walk.step(share), (to, to))
            self.stands(walk, (to, to), 1, 0)

    def test_met_is_the_first_time(self):
        walk = Both(COIN, free_ties(COIN), 0, 1)
        for share, places, met in (
            (S(1, 4), (0, 1), None), (h, (1, 0), None), (S(3, 4), (1, 1), 3), (h, (1, 1), 3), (0, (0, 0), 3),
        ):
            self.assertEqual(walk.step(share), places)
            self.assertEqual((walk.places, walk.met), (places, met))
        self.assertEqual(walk.steps, 5)

    def test_each_step_as_the_ties_tell(self):
        draw = source(201)
        for _ in range(25):
            chain = drawn_chain(draw, draw.randint(2, 5))
            for ties in (free_ties(chain), close_ties(chain)):
                s, t = draw.randrange(chain.size), draw.randrange(chain.size)
                walk = Both(chain, ties, s, t)
                places, met = (s, t), 0 if s == t else None
                for at in range(1, 12):
                    share = S(draw.randint(0, 59), 60)
                    if places[0] == places[1]:
                        to = pick(chain.row(places[0]), share)
                        places = (to, to)
                    else:
                        left = fraction(share)
                        for pair in sorted(ties[places]):
                            left -= fraction(ties[places][pair])
                            if left < 0:
                                places = pair
                                break
                    if met is None and places[0] == places[1]:
                        met = at
                    self.assertEqual(walk.step(share), places)
                    self.stands(walk, places, at, met)

    def test_the_shares_of_the_places(self):
        # All shares of a fine grid together come to the pairs with their amounts.
        walk = Both(FORK, FORKED, 0, 1)
        counts = {}
        for grid in itertools.product(range(8), repeat=2):
            to = walk.trial([S(part, 8) for part in grid])[-1]
            counts[to] = counts.get(to, 0) + S(1, 64)
        self.assertEqual(counts, tied_after(FORK, FORKED, 0, 1, 2))

    def test_bad_shares_change_nothing(self):
        walk = Both(FORK, FORKED, 0, 1)
        walk.step(S(1, 3))
        before = state_of(walk)
        for thing in odd_shares():
            self.refuses(BadFactor, {"factor": thing}, walk.step, thing)
            self.assertEqual(state_of(walk), before)
        for s, t in ((2, 2), (0, 0)):
            other = Both(FORK, FORKED, s, t)
            for thing in odd_shares():
                self.refuses(BadFactor, {"factor": thing}, other.step, thing)
            self.stands(other, (s, t), 0, 0)

    def test_what_was_passed_may_be_changed(self):
        ties = {pair: dict(tie) for pair, tie in FORKED.items()}
        walk = Both(FORK, ties, 0, 1)
        ties[(0, 1)].clear()
        ties[(0, 1)][(0, 0)] = 1
        ties.clear()
        self.assertEqual(walk.step(S(1, 4)), (1, 0))
        self.assertEqual(len(ties), 0)

    def test_the_order_of_the_keys_means_nothing(self):
        turned = {pair: dict(reversed(list(tie.items()))) for pair, tie in reversed(list(FORKED.items()))}
        one, other = Both(FORK, turned, 0, 1), Both(FORK, FORKED, 0, 1)
        for at in range(12):
            self.assertEqual(one.trial([S(at, 12)]), other.trial([S(at, 12)]))


class TrialTest(Case):

    def test_trial(self):
        walk = Both(COIN, free_ties(COIN), 0, 1)
        walk.step(h)
        before = state_of(walk)
        for kind in (list, tuple):
            found = walk.trial(kind([S(1, 4), h, S(3, 4), 0]))
            self.assertIs(type(found), list)
            self.assertEqual(found, [(0, 1), (1, 0), (1, 1), (0, 0)])
            self.assertEqual(walk.trial(kind([])), [])
        self.assertEqual(state_of(walk), before)
        for share, places in zip((S(1, 4), h, S(3, 4), 0), walk.trial((S(1, 4), h, S(3, 4), 0))):
            self.assertEqual(walk.step(share), places)

    def test_bad_shares(self):
        walk = Both(FORK, FORKED, 0, 1)
        before = state_of(walk)
        for thing in odd_shares():
            for shares in ([thing], (0, thing, -1), [0, h, thing], [S(3, 4), thing]):
                self.refuses(BadFactor, {"factor": thing}, walk.trial, shares)
                self.refuses(BadFactor, {"factor": thing}, tried, walk, shares)
                self.assertEqual(state_of(walk), before)

    def test_tried(self):
        draw = source(202)
        for _ in range(20):
            chain = drawn_chain(draw, draw.randint(1, 4))
            walk = Both(chain, close_ties(chain), 0, chain.size - 1)
            walk.step(S(draw.randint(0, 6), 7))
            before = state_of(walk)
            shares = [S(draw.randint(0, 29), 30) for _ in range(6)]
            found = tried(walk, tuple(shares))
            self.assertIs(type(found), list)
            self.assertEqual(state_of(walk), before)
            self.assertEqual(found, walk.trial(shares))
            self.assertEqual(found, tried(walk, shares))
            self.assertEqual(found, [walk.step(share) for share in shares])
            self.assertEqual(tried(walk, []), [])

    def test_tried_does_the_steps(self):
        seen = []

        class Watched(Both):
            def step(self, share):
                seen.append(state_of(self))
                return Both.step(self, share)

        walk = Watched(COIN, free_ties(COIN), 0, 1)
        self.assertEqual(tried(walk, [h, S(3, 4)]), [(1, 0), (1, 1)])
        self.assertEqual(seen, [((0, 1), 0, None), ((1, 0), 1, None)])
        self.assertEqual(state_of(walk), ((0, 1), 0, None))


class BlockTest(Case):

    def test_a_block_gives_itself_and_puts_back(self):
        walk = Both(COIN, free_ties(COIN), 0, 1)
        walk.step(h)
        with walk as same:
            self.assertIs(same, walk)
            self.assertEqual(state_of(walk), ((1, 0), 1, None))
            same.step(0)
            self.assertEqual(state_of(walk), ((0, 0), 2, 2))
        self.assertEqual(state_of(walk), ((1, 0), 1, None))
        self.assertEqual(walk.step(0), (0, 0))
        self.assertEqual(walk.met, 2)

    def test_behind_an_error(self):
        walk = Both(COIN, free_ties(COIN), 0, 1)
        for error in (KeyError, ValueError, KeyboardInterrupt, BadFactor):
            with self.assertRaises(error):
                with walk:
                    walk.step(S(3, 4))
                    walk.step(0)
                    if error is BadFactor:
                        walk.step(1)
                    raise error()
            self.assertEqual(state_of(walk), ((0, 1), 0, None))

    def test_blocks_in_blocks(self):
        walk = Both(COIN, free_ties(COIN), 0, 1)
        with walk:
            walk.step(h)
            with self.assertRaises(KeyError):
                with walk as inner:
                    inner.step(S(3, 4))
                    with walk:
                        walk.step(0)
                        self.assertEqual(state_of(walk), ((0, 0), 3, 2))
                        self.assertEqual(tried(walk, [h, 0]), [(1, 1), (0, 0)])
                        self.assertEqual(state_of(walk), ((0, 0), 3, 2))
                    self.assertEqual(state_of(walk), ((1, 1), 2, 2))
                    raise KeyError
            self.assertEqual(state_of(walk), ((1, 0), 1, None))
            with walk:
                walk.step(S(1, 4))
            self.assertEqual(state_of(walk), ((1, 0), 1, None))
            walk.step(0)
        self.assertEqual(state_of(walk), ((0, 1), 0, None))
        with walk:
            pass
        self.assertEqual(state_of(walk), ((0, 1), 0, None))

    def test_leaving_a_block_early(self):
        walk = Both(COIN, free_ties(COIN), 0, 1)

        def leave():
            with walk:
                return walk.step(h)

        for _ in range(2):
            self.assertEqual(leave(), (1, 0))
            self.assertEqual(state_of(walk), ((0, 1), 0, None))
        for share in (0, h):
            with walk:
                walk.step(share)
                continue
        self.assertEqual(state_of(walk), ((0, 1), 0, None))

    def test_two_walks_at_once(self):
        one, other = Both(COIN, free_ties(COIN), 0, 1), Both(COIN, close_ties(COIN), 0, 1)
        with one, other:
            one.step(h)
            other.step(0)
            self.assertEqual((state_of(one), state_of(other)), (((1, 0), 1, None), ((0, 0), 1, 1)))
        self.assertEqual((state_of(one), state_of(other)), (((0, 1), 0, None), ((0, 1), 0, None)))


class WalkedTest(Case):

    def test_walked(self):
        self.assertTrue(inspect.isgeneratorfunction(walked))
        for kind in (list, tuple, iter):
            shares = [S(1, 4), h, S(3, 4), 0]
            self.assertEqual(list(walked(FORK, 0, kind(shares))), [0, 1, 2, 2, 2])
            self.assertEqual(list(walked(ring(4), 2, kind([0] * 5))), [2, 3, 0, 1, 2, 3])
            self.assertEqual(list(walked(FORK, 1, kind([]))), [1])

    def test_each_next_state(self):
        draw = source(203)
        for _ in range(20):
            chain = drawn_chain(draw, draw.randint(1, 8))
            shares = [S(draw.randint(0, 29), 30) for _ in range(10)]
            states = [draw.randrange(chain.size)]
            for share in shares:
                states.append(pick(chain.row(states[-1]), share))
            self.assertEqual(list(walked(chain, states[0], shares)), states)

    def test_shares_are_taken_when_they_are_asked_for(self):
        taken = []

        def endless():
            at = 0
            while True:
                taken.append(at)
                yield S(at % 4, 4)
                at = at + 1

        walk = walked(FORK, 0, endless())
        self.assertEqual(taken, [])
        self.assertEqual(next(walk), 0)
        self.assertEqual(taken, [])
        self.assertEqual(next(walk), 0)
        self.assertEqual(taken, [0])
        self.assertEqual(next(walk), 1)
        self.assertEqual(taken, [0, 1])
        self.assertEqual(list(itertools.islice(walk, 3)), [2, 2, 2])
        self.assertEqual(taken, [0, 1, 2, 3, 4])
        # The step for the last share is not done ahead of time, either.
        self.assertEqual(list(itertools.islice(walked(COIN, 1, itertools.cycle([0, h])), 6)), [1, 0, 1, 0, 1, 0])

    def test_no_state(self):
        for thing in odd_objects() + [3, -1, S(0)]:
            self.refuses(NoState, {"state": thing}, lambda: next(walked(FORK, thing, itertools.repeat(0))))
            self.refuses(NoState, {"state": thing}, lambda: list(walked(FORK, thing, [])))

    def test_two_at_once(self):
        one, other = walked(SWAP, 0, itertools.repeat(0)), walked(SWAP, 1, itertools.repeat(h))
        self.assertEqual([(next(one), next(other)) for _ in range(4)], [(0, 1), (1, 0), (0, 1), (1, 0)])


if __name__ == "__main__":
    unittest.main()
