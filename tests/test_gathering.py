"""[16.1] and [16.2]: gathering."""

import itertools
import unittest

from bothwalks.chains import Chain
from bothwalks.draws import Draw, free_draw, same_draw
from bothwalks.errors import BadSteps, TooMany
from bothwalks.gathering import gather_mean, gather_shares, gather_word, is_stuck, stuck
from bothwalks.walking import closed_parts, mean_steps, rest
from tests.helpers import Case, S, drawn_chain, fraction, h, odd_objects, source
from tests.test_chains import COIN, SWAP, THREE, one_state, ring
from tests.test_draws import drawn_draw, maps

SWAPS = Draw(((1, (1, 0)),))
ONE = Draw(((1, (0,)),))
# A round of 4 states, and a map that puts one of them on another: only 9 of these maps gather all.
SLOW = Draw(((h, (1, 2, 3, 0)), (h, (1, 1, 2, 3))))
PARTED = Draw(((h, (0, 0, 2, 3)), (h, (1, 1, 3, 2))))


def drawn(seed, many, most, parts=3):
    draw = source(seed)
    for _ in range(many):
        yield drawn_draw(draw, draw.randint(1, most), draw.randint(1, parts))


def led(draw, word, state):
    for at in word:
        state = draw.parts[at][1][state]
    return state


def least_word(draw, most):
    """The first gathering word of at most so many indexes, by a look at all."""
    for many in range(most + 1):
        for word in itertools.product(range(len(draw.parts)), repeat=many):
            if len({led(draw, word, state) for state in range(draw.size)}) == 1:
                return word
    return None


class GatherWordTest(Case):

    def test_gather_word(self):
        self.assertEqual(gather_word(ONE), ())
        self.assertEqual(gather_word(same_draw(COIN)), (0,))
        self.assertIs(gather_word(SWAPS), None)
        self.assertIs(gather_word(same_draw(ring(8))), None)
        self.assertIs(gather_word(PARTED), None)
        word = gather_word(SLOW)
        # The map that is not a round is the first of the parts.
        self.assertEqual([leads for _, leads in SLOW.parts], [(1, 1, 2, 3), (1, 2, 3, 0)])
        self.assertEqual(word, (0, 1, 1, 1, 0, 1, 1, 1, 0))
        self.assertEqual(len({led(SLOW, word, state) for state in range(4)}), 1)

    def test_the_order_in_which_they_are_done(self):
        # 0 and 1 are put together by the first map; then all are where the second one leads.
        draw = Draw(((h, (0, 0, 1)), (h, (2, 2, 0))))
        self.assertEqual(gather_word(draw), (0, 0))
        draw = Draw(((h, (0, 1, 0)), (h, (2, 0, 0))))
        self.assertEqual(gather_word(draw), (1, 0))
        self.assertEqual(least_word(draw, 4), (1, 0))

    def test_by_a_look_at_all(self):
        found = {}
        for draw in list(drawn(171, 120, 4, 3)) + list(drawn(172, 40, 3, 6)):
            word = gather_word(draw)
            most = 6 if len(draw.parts) < 4 else 4
            found[None if word is None else len(word)] = True
            if word is None or len(word) > most:
                self.assertIs(least_word(draw, most), None)
                self.assertIs(word is None, bool(stuck(draw)))
            else:
                self.assertEqual(word, least_word(draw, most))
        self.assertLessEqual({None, 0, 1, 2, 3, 4}, set(found))

    def test_eight_states_and_three_hundred_parts(self):
        draw = Draw(tuple((S(1, 300), leads) for leads in maps(300, 8)))
        word = gather_word(draw)
        self.assertEqual(len({led(draw, word, state) for state in range(8)}), 1)
        long = Draw(((h, (1, 2, 3, 4, 5, 6, 7, 0)), (h, (1, 1, 2, 3, 4, 5, 6, 7))))
        word = gather_word(long)
        self.assertEqual(len(word), 49)
        self.assertEqual(len({led(long, word, state) for state in range(8)}), 1)


class StuckTest(Case):

    def test_stuck(self):
        self.assertEqual(stuck(ONE), [])
        self.assertEqual(stuck(SWAPS), [(0, 1)])
        self.assertEqual(stuck(same_draw(SWAP)), [(0, 1)])
        self.assertEqual(stuck(SLOW), [])
        self.assertEqual(stuck(PARTED), [(0, 2), (0, 3), (1, 2), (1, 3), (2, 3)])
        self.assertEqual(len(stuck(same_draw(ring(8)))), 28)

    def test_by_a_look_at_all(self):
        some = 0
        for draw in list(drawn(173, 100, 4, 3)) + list(drawn(174, 40, 6, 2)):
            found = stuck(draw)
            self.assertIs(type(found), list)
            pairs = list(itertools.combinations(range(draw.size), 2))
            ahead = {pair: {pair} for pair in pairs}
            for _ in pairs:
                for pair in pairs:
                    ahead[pair] |= {
                        tuple(sorted(leads[state] for state in at)) for at in ahead[pair] for _, leads in draw.parts
                    }
            right = [pair for pair in pairs if all(s != t for s, t in ahead[pair])]
            self.assertEqual(found, right)
            self.assertIs(found == [], gather_word(draw) is not None)
            if found:
                self.judges(True, is_stuck, draw, tuple(found))
                some += 1
        self.assertGreater(some, 20)


class IsStuckTest(Case):

    def test_right_ones(self):
        for thing in (((0, 1),), ((1, 0),), ((0, 1), (1, 0)), ((0, 1), (0, 1)), ((1, 0), (1, 0), (0, 1))):
            self.judges(True, is_stuck, SWAPS, thing)
        for thing in (
            ((0, 2), (1, 3), (0, 3), (1, 2)), ((2, 3),), ((3, 2),), ((2, 0), (3, 1), (0, 3), (2, 1)),
            ((2, 3), (2, 3), (0, 2), (1, 3), (0, 3), (1, 2), (2, 1)),
        ):
            self.judges(True, is_stuck, PARTED, thing)
        self.judges(True, is_stuck, same_draw(ring(3)), ((0, 1), (1, 2), (0, 2)))

    def test_wrong_ones(self):
        for thing in (
            (), ((0, 0),), ((0, 1), (0, 0)), ((0, 1), (1, 1)), ((0, 1), (0, 0), (1, 1)), ((0, 0), (1, 1)), [(0, 1)], ([0, 1],), ((0, 1, 1),), ((0,),), ((0, True),),
            ((False, 1),), ((0, 1), (False, 1)), ((0, 2),), ((-1, 0),), ((0, 1), None), {(0, 1): True}, {(0, 1)}, "01",
            (0, 1), ((0, S(1)),), ((0, "1"),), ((0, 1), ()),
        ):
            self.judges(False, is_stuck, SWAPS, thing)
        for thing in (((0, 1),), ((0, 2),), ((0, 2), (1, 3), (0, 1)), ((0, 2), (1, 3)), ((0, 3), (1, 2)), ((2, 3), (0, 2)),
                      ((2, 0), (1, 3), (0, 3))):
            self.judges(False, is_stuck, PARTED, thing)
        self.judges(False, is_stuck, ONE, ())
        self.judges(False, is_stuck, ONE, ((0, 0),))
        self.judges(False, is_stuck, SLOW, tuple(itertools.combinations(range(4), 2)))
        for thing in odd_objects():
            self.judges(False, is_stuck, SWAPS, thing)
            self.judges(False, is_stuck, SWAPS, (thing,))
            self.judges(False, is_stuck, SWAPS, ((0, 1), thing))
            self.judges(False, is_stuck, SWAPS, ((0, 1), (1, thing)))

    def test_by_a_look_at_all(self):
        told = {True: 0, False: 0}
        for draw in drawn(175, 60, 4, 2):
            pairs = list(itertools.combinations(range(draw.size), 2))
            for many in range(1, len(pairs) + 1):
                for part in itertools.combinations(pairs, many):
                    sets = [set(pair) for pair in part]
                    right = all({leads[state] for state in pair} in sets for pair in part for _, leads in draw.parts)
                    self.judges(right, is_stuck, draw, part)
                    told[right] += 1
                    if right:
                        self.assertLessEqual(set(part), set(stuck(draw)))
        self.assertGreater(min(told.values()), 30)


def chain_of_sets(draw):
    """The chain of the sets at which all states of a draw of at most 3 states can be."""
    sets = [
        frozenset(part) for many in range(1, draw.size + 1) for part in itertools.combinations(range(draw.size), many)
    ]
    rows = []
    for states in sets:
        row = [S(0)] * len(sets)
        for share, leads in draw.parts:
            at = sets.index(frozenset(leads[state] for state in states))
            row[at] = row[at] + share
        rows.append(tuple(row))
    return Chain(tuple(rows), ("a",) * len(sets))


class GatherMeanTest(Case):

    def test_gather_mean(self):
        for draw, mean in (
            (ONE, 0), (same_draw(COIN), 1), (free_draw(COIN), 2), (Draw(((h, (0, 1)), (h, (1, 1)))), 2),
            (Draw(((1, (0, 0, 1)),)), 2), (Draw(((1, (0, 0, 1, 2, 3)),)), 4),
            (Draw(((S(1, 3), (0, 0, 1)), (S(2, 3), (0, 1, 2)))), 6),
        ):
            self.is_share(gather_mean(draw))
            self.assertEqual(gather_mean(draw), mean)
        for draw in (SWAPS, PARTED, same_draw(ring(5)), Draw(((h, (0, 1, 2)), (h, (0, 0, 2))))):
            self.assertIs(gather_mean(draw), None)
        self.is_share(gather_mean(SLOW))

    def test_as_a_walk_over_sets(self):
        nones, some = 0, 0
        for draw in drawn(176, 90, 3, 5):
            chain = chain_of_sets(draw)
            mean = gather_mean(draw)
            self.assertEqual(mean, mean_steps(chain, chain.size - 1, tuple(range(draw.size))))
            self.assertIs(mean is None, gather_word(draw) is None)
            nones += mean is None
            some += mean is not None
        self.assertGreater(min(nones, some), 10)

    def test_larger_draws(self):
        for draw in drawn(177, 30, 5, 6):
            mean = gather_mean(draw)
            self.assertIs(mean is None, gather_word(draw) is None)
            if mean is None:
                continue
            # The shares with which so many draws have not gathered all come up to the mean, from below.
            now, sums = {tuple(range(draw.size)): 1.0}, 0.0
            for _ in range(400):
                sums += sum(share for states, share in now.items() if len(states) > 1)
                later = {}
                for states, share in now.items():
                    for part, leads in draw.parts:
                        to = tuple(sorted({leads[state] for state in states}))
                        later[to] = later.get(to, 0) + share * float(fraction(part))
                now = later
            left = sum(share for states, share in now.items() if len(states) > 1)
            if left < 1e-12:
                self.assertAlmostEqual(float(fraction(mean)), sums, 6)

    def test_too_many(self):
        for many in (6, 8):
            self.refuses(TooMany, {"limit": 5}, gather_mean, same_draw(ring(many)))


class GatherSharesTest(Case):

    def test_gather_shares(self):
        for n in range(9):
            self.assertEqual(gather_shares(ONE, n), (1,))
            self.assertEqual(gather_shares(SWAPS, n), (0, 0))
            self.assertEqual(gather_shares(same_draw(COIN), n), (h, h) if n else (0, 0))
        self.assertEqual(gather_shares(free_draw(COIN), 1), (S(1, 4), S(1, 4)))
        self.assertEqual(gather_shares(free_draw(COIN), 2), (S(3, 8), S(3, 8)))
        # All go to 0 and then on to 1, or to 2: what is drawn first is done last.
        draw = Draw(((S(1, 3), (0, 0, 0)), (S(2, 3), (1, 2, 2))))
        self.assertEqual(gather_shares(draw, 1), (S(1, 3), 0, 0))
        self.assertEqual(gather_shares(draw, 2), (S(1, 3), S(2, 9), S(4, 9)))

    def test_by_a_look_at_all(self):
        for draw in drawn(178, 40, 4, 3):
            last = (0,) * draw.size
            for n in range(5):
                found = [0] * draw.size
                for parts in itertools.product(draw.parts, repeat=n):
                    share, states = 1, tuple(range(draw.size))
                    for part, leads in parts:
                        share = share * fraction(part)
                        # Done ahead of those so far: where a state is led by it, from there by them.
                        states = tuple(states[leads[state]] for state in range(draw.size))
                    if len(set(states)) == 1:
                        found[states[0]] += share
                answer = gather_shares(draw, n)
                self.assertIs(type(answer), tuple)
                self.are_shares(answer)
                self.assertEqual([fraction(share) for share in answer], found)
                self.assertFalse(any(share.less(before) for share, before in zip(answer, last)))
                last = answer

    def test_no_item_is_above_the_rest(self):
        draw = source(179)
        single = 0
        for _ in range(30):
            chain = drawn_chain(draw, draw.randint(1, 4), "a", 0.4)
            parts = closed_parts(chain)
            if len(parts) == 1:
                single += 1
                for n in range(9):
                    shares = gather_shares(same_draw(chain), n)
                    for share, most in zip(shares, rest(chain, parts[0][0])):
                        self.assertFalse(most.less(share))
        self.assertGreater(single, 15)

    def test_errors_in_turn(self):
        for thing in odd_objects() + [9, -1, S(3), "3", 10 ** 20]:
            self.refuses(BadSteps, {"steps": thing}, gather_shares, same_draw(COIN), thing)
            self.refuses(BadSteps, {"steps": thing}, gather_shares, ONE, thing)
            self.refuses(BadSteps, {"steps": thing}, gather_shares, same_draw(ring(4)), thing)
            for many in (5, 8):
                self.refuses(TooMany, {"limit": 4}, gather_shares, same_draw(ring(many)), thing)
        self.refuses(TooMany, {"limit": 4}, gather_shares, same_draw(ring(5)), 3)
        self.assertEqual(gather_shares(same_draw(one_state()), 8), (1,))
        self.assertEqual(gather_shares(same_draw(THREE), 8), (0, 0, 0))


if __name__ == "__main__":
    unittest.main()
