"""[9.1] to [9.3]: papers for near and far."""

import unittest

from bothwalks.carrying import is_prices, plan_cost, worth
from bothwalks.chains import Chain, beside
from bothwalks.lumps import lumps
from bothwalks.near import distances
from bothwalks.papers import far_paper, is_far_paper, is_near_paper, near_paper
from bothwalks.ties import free_ties
from tests.helpers import Case, S, all_pairs, drawn_chain, h, odd_objects, source
from tests.test_chains import COIN, SWAP, THREE, one_state, ring
from tests.test_lumps import chains as doubled_chains
from tests.test_near import FORK, SLOW, drawn

TIE = {(1, 1): h, (2, 1): h}
RIGHT = {(0, 1): (h, TIE), (1, 1): (0, {(1, 1): 1}), (2, 1): (1, None)}
LITTLE = S(1, 10 ** 12)


def far_of_three():
    """A far paper of THREE, made by hand, each number of which is the distance."""
    prices, turned = ((0, 0, 1), (0, 0, -1)), ((-1, 0, -1), (0, 0, 1))
    paper = {(s, t): (1 if (s == 2) != (t == 2) else 0, None) for s in range(3) for t in range(3)}
    return {**paper, (0, 1): (h, prices), (1, 0): (h, turned)}


class NearPaperTest(Case):

    def test_near_paper(self):
        self.assertEqual(near_paper(THREE, 0, 2), {(0, 2): (1, None)})
        self.assertEqual(near_paper(THREE, 0, 1)[(0, 1)], (h, TIE))
        self.assertEqual(near_paper(one_state(), 0, 0), {(0, 0): (0, {(0, 0): 1})})
        self.assertEqual(near_paper(SWAP, 0, 1), {(0, 1): (0, {(1, 0): 1}), (1, 0): (0, {(0, 1): 1})})
        self.assertEqual(near_paper(COIN, 1, 0), {(1, 0): (1, None)})

    def test_drawn_chains(self):
        chains = list(drawn(91, 12, (2, 3, 4, 5, 6), ("ab", "aab", "aaabc"))) + list(doubled_chains(92, 12))
        for chain in chains + [FORK, SLOW, THREE]:
            found = distances(chain)
            for s, t in all_pairs(chain):
                paper = near_paper(chain, s, t)
                self.assertIs(type(paper), dict)
                self.assertIn((s, t), paper)
                self.assertEqual(list(paper), sorted(paper))
                self.judges(True, is_near_paper, chain, paper)
                for pair, (number, tie) in paper.items():
                    self.is_share(number)
                    self.assertEqual(number, found[pair])
                    if tie is not None:
                        self.assertEqual(list(tie), sorted(tie))
                        self.are_shares(tie.values())


class IsNearPaperTest(Case):

    def test_right_ones(self):
        for paper in (
            {}, RIGHT, {(0, 2): (1, None)}, {(0, 2): (7, None)}, {(0, 1): (1, None)}, {(1, 1): (1, None)},
            {(0, 2): (1 + LITTLE, None)}, {(0, 0): (S(3, 2), None)},
            {**RIGHT, (0, 1): (h + LITTLE, TIE)}, {**RIGHT, (0, 1): (1, TIE)}, {**RIGHT, (0, 1): (9, TIE)},
            {**RIGHT, (0, 1): (S(3, 4), TIE), (1, 1): (h, {(1, 1): 1})},
            {**RIGHT, (1, 2): (1, None), (2, 2): (0, {(2, 2): 1})},
            {**RIGHT, (1, 2): (1, None), (0, 0): (1, {(1, 2): h, (2, 1): h})},
            {(2, 1): (S(4, 3), None), (1, 1): (0, {(1, 1): 1}), (0, 1): (S(2, 3), TIE)},
        ):
            self.judges(True, is_near_paper, THREE, paper)
        self.judges(True, is_near_paper, SWAP, {(1, 0): (0, {(0, 1): 1}), (0, 1): (0, {(1, 0): 1})})
        self.judges(True, is_near_paper, SWAP, {(1, 0): (S(1, 9), {(0, 1): 1}), (0, 1): (S(1, 9), {(1, 0): 1})})
        self.judges(True, is_near_paper, one_state(), {(0, 0): (0, {(0, 0): S(1)})})

    def test_numbers(self):
        for paper in (
            {(0, 2): (1 - LITTLE, None)}, {(0, 1): (1 - LITTLE, None)}, {(0, 2): (0, None)}, {(0, 0): (0, None)},
            {**RIGHT, (0, 1): (h - LITTLE, TIE)}, {**RIGHT, (2, 1): (1 - LITTLE, None)},
            {**RIGHT, (1, 1): (LITTLE, {(1, 1): 1})}, {**RIGHT, (2, 1): (1 + LITTLE, None)},
            {**RIGHT, (1, 2): (1, None), (0, 0): (1 - LITTLE, {(1, 2): h, (2, 1): h})},
            {**RIGHT, (1, 1): (-LITTLE, {(1, 1): 1})}, {**RIGHT, (1, 1): (-1, {(1, 1): 1})},
            {**RIGHT, (0, 1): (True, TIE)}, {**RIGHT, (1, 1): (False, {(1, 1): 1})}, {(0, 2): (True, None)},
        ):
            self.judges(False, is_near_paper, THREE, paper)
        # All of a ring that never comes to an end may be as high as one likes, but not one above another.
        ring_ties = {(1, 0): {(0, 1): 1}, (0, 1): {(1, 0): 1}}
        for low, high, right in ((0, 0, True), (5, 5, True), (0, LITTLE, False), (h, S(1, 3), False)):
            paper = {(0, 1): (low, ring_ties[(0, 1)]), (1, 0): (high, ring_ties[(1, 0)])}
            self.judges(right, is_near_paper, SWAP, paper)

    def test_pairs(self):
        for paper in (
            {(0, 1): (h, TIE), (1, 1): (0, {(1, 1): 1})}, {(0, 1): (h, TIE), (2, 1): (1, None)}, {(0, 1): (h, TIE)},
            {**RIGHT, (0, 3): (1, None)}, {**RIGHT, (3, 0): (1, None)}, {**RIGHT, (-1, 0): (1, None)},
            {**RIGHT, (2, False): (1, None)}, {**RIGHT, (True, 2): (1, None)},
            {**RIGHT, (0, False): (1, None)},
            {**RIGHT, 0: (1, None)}, {**RIGHT, (0, 1, 2): (1, None)}, {**RIGHT, "ab": (1, None)},
            {(0, True): (h, TIE), (1, 1): (0, {(1, 1): 1}), (2, 1): (1, None)}, {**RIGHT, (): (1, None)},
            {(0, 1): (h, TIE), (1, True): (0, {(1, 1): 1}), (2, 1): (1, None)}, {**RIGHT, None: (1, None)},
        ):
            self.judges(False, is_near_paper, THREE, paper)

    def test_ties(self):
        for tie in (
            {}, {(1, 1): 1}, {(1, 1): h}, {(1, 1): h, (2, 1): h, (2, 2): 0}, {(1, 1): h, (2, 1): h, (1, 2): 0},
            {(1, 1): h, (1, 2): h}, {(1, True): h, (2, 1): h}, {(True, 1): h, (2, 1): h}, {(1, 1): h, (2, 1): S(1, 3)},
            {(1, 1): h, (2, 1): h, (3, 1): 1}, {(1, 1): S(3, 2), (2, 1): h, (0, 1): -1}, [((1, 1), h), ((2, 1), h)],
            {(1, 1): h, (2, 1): h, "x": 0}, (TIE,), {(0, 1): h, (1, 1): h},
        ):
            self.judges(False, is_near_paper, THREE, {**RIGHT, (0, 1): (5, tie)})
        # A pair with unlike labels has no tie, how high its number may be.
        paper = {(2, 0): (1, {(2, 1): h, (2, 2): h}), (2, 1): (1, None), (2, 2): (0, {(2, 2): 1})}
        self.judges(False, is_near_paper, THREE, paper)
        self.judges(True, is_near_paper, THREE.with_label(2, "a"), paper)
        self.judges(False, is_near_paper, SLOW, RIGHT)

    def test_other_objects(self):
        for thing in odd_objects():
            self.judges(thing == {} and isinstance(thing, dict), is_near_paper, THREE, thing)
            self.judges(False, is_near_paper, THREE, {**RIGHT, (0, 1): thing})
            self.judges(False, is_near_paper, THREE, {**RIGHT, (0, 1): (thing,)})
            self.judges(False, is_near_paper, THREE, {**RIGHT, (0, 1): (h, TIE, thing)})
            self.judges(False, is_near_paper, THREE, {**RIGHT, (0, 1): [h, TIE]})
            self.judges(False, is_near_paper, THREE, {**RIGHT, (0, 1): (h, thing)})
            enough = isinstance(thing, (S, int)) and not isinstance(thing, bool) and not (h - thing).top > 0
            self.judges(enough, is_near_paper, THREE, {**RIGHT, (0, 1): (thing, TIE)})

    def test_what_is_judged_right_is_right(self):
        draw = source(93)
        told = {True: 0, False: 0}
        for chain in drawn(94, 12, (2, 3, 4)):
            found, free = distances(chain), free_ties(chain)
            for s, t in all_pairs(chain):
                for _ in range(6):
                    paper = near_paper(chain, s, t)
                    for pair in list(paper):
                        number, tie = paper[pair]
                        number = number + draw.choice([0, 0, 0, 1, -1]) * S(1, draw.randint(2, 9))
                        if tie is not None and draw.random() < 0.1 and pair in free:
                            tie = free[pair]
                        paper[pair] = (number, tie)
                    right = is_near_paper(chain, paper)
                    told[right] += 1
                    self.assertIs(right, all(
                        not number.less(0) and (
                            not number.less(1) if tie is None else all(to in paper for to in tie)
                            and not number.less(plan_cost({to: paper[to][0] for to in paper}, tie))
                        ) for number, tie in paper.values()
                    ))
                    if right:
                        for pair in paper:
                            self.assertFalse(paper[pair][0].less(found[pair]))
        self.assertGreater(min(told.values()), 50)


class FarPaperTest(Case):

    def test_far_paper(self):
        self.assertEqual(far_paper(one_state()), {(0, 0): (0, None)})
        self.assertEqual(far_paper(SWAP), {pair: (0, None) for pair in all_pairs(SWAP)})
        self.assertEqual(far_paper(COIN), {
            (0, 0): (0, None), (0, 1): (1, None), (1, 0): (1, None), (1, 1): (0, None),
        })

    def test_drawn_chains(self):
        chains = list(drawn(95, 20, (2, 3, 4, 5, 6), ("ab", "aab", "aaabc"))) + list(doubled_chains(96, 12))
        for chain in chains + [FORK, SLOW, THREE, ring(6)]:
            found = distances(chain)
            paper = far_paper(chain)
            self.judges(True, is_far_paper, chain, paper)
            self.assertEqual(list(paper), all_pairs(chain))
            for (s, t), (number, prices) in paper.items():
                self.is_share(number)
                self.assertEqual(number, found[(s, t)])
                if chain.label(s) == chain.label(t) and number != 0:
                    self.judges(True, is_prices, found, prices)
                    self.assertEqual(worth(chain.row(s), chain.row(t), prices), number)
                    self.are_shares(prices[0] + prices[1])
                else:
                    self.assertIs(prices, None)


class IsFarPaperTest(Case):

    def test_right_ones(self):
        right = far_of_three()
        prices = right[(0, 1)][1]
        for paper in (
            right, {**right, (0, 1): (h - LITTLE, prices)}, {**right, (0, 1): (0, None)},
            {**right, (0, 1): (h, (tuple(S(u) for u in prices[0]), prices[1]))}, {**right, (0, 2): (S(2, 3), None)},
            {**right, (0, 2): (0, None)}, {**right, (0, 1): (LITTLE, prices)}, {**right, (0, 1): (S(1, 3), prices)},
            {**right, (0, 1): (h, ((5, 5, 6), (-5, -5, -6)))}, {pair: (0, None) for pair in right},
        ):
            self.judges(True, is_far_paper, THREE, paper)
        self.judges(True, is_far_paper, one_state(), {(0, 0): (0, None)})
        self.judges(True, is_far_paper, one_state(), {(0, 0): (S(0), None)})
        self.judges(True, is_far_paper, COIN, {(1, 1): (0, None), (1, 0): (1, None), (0, 1): (h, None), (0, 0): (0, None)})

    def test_numbers(self):
        right = far_of_three()
        prices = right[(0, 1)][1]
        for paper in (
            {**right, (0, 1): (h + LITTLE, prices)}, {**right, (0, 1): (1, prices)}, {**right, (0, 2): (1 + LITTLE, None)},
            {**right, (0, 2): (-LITTLE, None)}, {**right, (0, 2): (2, None)}, {**right, (0, 1): (-h, prices)},
            {**right, (0, 0): (LITTLE, None)}, {**right, (0, 0): (LITTLE, ((0, 0, 0), (0, 0, 0)))},
            {**right, (0, 2): (True, None)}, {**right, (0, 0): (False, None)}, {**right, (0, 1): (False, None)},
            # The numbers are the costs: with a lower one the prices are too high.
            {**right, (2, 1): (1 - LITTLE, None)}, {**right, (2, 0): (S(1, 3), None)},
        ):
            self.judges(False, is_far_paper, THREE, paper)
        swap = {(0, 0): (0, None), (0, 1): (0, None), (1, 0): (0, None), (1, 1): (0, None)}
        self.judges(True, is_far_paper, SWAP, swap)
        # Round and round they would show 1 of each other; but both are of one lump.
        ones = {**swap, (0, 1): (1, ((0, 1), (0, -1))), (1, 0): (1, ((1, 0), (-1, 0)))}
        for (s, t), (number, prices) in ones.items():
            if s != t:
                self.judges(True, is_prices, {pair: told[0] for pair, told in ones.items()}, prices)
                self.assertEqual(worth(SWAP.row(s), SWAP.row(t), prices), number)
        self.judges(False, is_far_paper, SWAP, ones)

    def test_prices(self):
        right = far_of_three()
        for prices in (
            None, ((0, 0, 1), (0, 0, LITTLE - 1)), ((0, LITTLE, 1), (0, 0, -1)), ((0, 0, 1 - LITTLE), (0, 0, -1)),
            ((0, 0, 1 + LITTLE), (0, 0, -1)), ((0, 0, 1),), ((0, 0, 1), (0, 0, -1), (0, 0, 0)), ((0, 1), (0, 0)),
            [(0, 0, 1), (0, 0, -1)], ([0, 0, 1], (0, 0, -1)), ((0, 0, True), (0, 0, -1)), ((0, 0, 1), (False, 0, -1)),
            ((0, 0, 1, 0), (0, 0, -1, 0)), ((0, 0, "1"), (0, 0, -1)), ((0, 0, None), (0, 0, -1)), (),
        ):
            self.judges(False, is_far_paper, THREE, {**right, (0, 1): (h, prices)})
        prices = right[(0, 1)][1]
        for pair, number in (((0, 0), 0), ((0, 2), 1), ((0, 2), 0), ((1, 0), 0), ((2, 1), h)):
            self.judges(True, is_far_paper, THREE, {**right, (0, 1): (0, None), (1, 0): (0, None), pair: (number, None)})
            self.judges(False, is_far_paper, THREE, {
                **right, (0, 1): (0, None), (1, 0): (0, None), pair: (number, ((0, 0, 0), (0, 0, 0))),
            })
        self.judges(False, is_far_paper, THREE, {**right, (0, 1): (0, prices)})

    def test_pairs(self):
        right = far_of_three()
        for pair in right:
            lacking = {other: right[other] for other in right if other != pair}
            self.judges(False, is_far_paper, THREE, lacking)
            self.judges(False, is_far_paper, THREE, {**lacking, "x": right[pair]})
            self.judges(False, is_far_paper, THREE, {**lacking, pair + (0,): right[pair]})
        for key in ((3, 0), (0, 3), (-1, 0), 0, None, "ab", (0,), ()):
            self.judges(False, is_far_paper, THREE, {**right, key: (0, None)})
        flagged = {other: right[other] for other in right if other != (0, 1)}
        self.judges(False, is_far_paper, THREE, {**flagged, (0, True): right[(0, 1)]})
        self.judges(False, is_far_paper, THREE, {**flagged, (False, 1): right[(0, 1)]})
        self.judges(False, is_far_paper, THREE, {})

    def test_other_objects(self):
        right = far_of_three()
        for thing in odd_objects():
            self.judges(False, is_far_paper, THREE, thing)
            self.judges(False, is_far_paper, THREE, {**right, (0, 1): thing})
            self.judges(False, is_far_paper, THREE, {**right, (0, 1): (thing,)})
            self.judges(False, is_far_paper, THREE, {**right, (0, 1): (h, thing)})
            self.judges(False, is_far_paper, THREE, {**right, (0, 1): (h, (thing, (0, 0, -1)))})
            self.judges(False, is_far_paper, THREE, {**right, (0, 1): (h, right[(0, 1)][1], thing)})
            self.judges(thing is None, is_far_paper, THREE, {**right, (0, 2): (1, thing)})
            fits = isinstance(thing, S) and thing == h
            self.judges(fits, is_far_paper, THREE, {**right, (0, 1): (thing, right[(0, 1)][1])})

    def test_what_is_judged_right_is_right(self):
        draw = source(97)
        told = {True: 0, False: 0}
        for chain in drawn(98, 40, (2, 3, 4)):
            found = distances(chain)
            lump = {state: part for part in lumps(chain) for state in part}
            for _ in range(8):
                paper = far_paper(chain)
                for pair in list(paper):
                    number, prices = paper[pair]
                    if draw.random() < 0.1 and lump[pair[0]] != lump[pair[1]]:
                        number = number * S(draw.randint(1, 9), 8)
                    if draw.random() < 0.05 and chain.label(pair[0]) == chain.label(pair[1]):
                        number, prices = S(0), None
                    paper[pair] = (number, prices)
                right = is_far_paper(chain, paper)
                told[right] += 1
                if right:
                    for pair in paper:
                        self.assertFalse(found[pair].less(paper[pair][0]))
        self.assertGreater(min(told.values()), 30)

    def test_more_states_than_papers_are_made_for(self):
        both = beside(THREE, beside(COIN, drawn_chain(source(99), 3)))
        self.assertEqual(both.size, 8)
        paper = {(s, t): (int(both.label(s) != both.label(t)), None) for s, t in all_pairs(both)}
        self.judges(True, is_far_paper, both, paper)
        self.judges(True, is_near_paper, both, {
            pair: (1, None) for pair in all_pairs(both)
        })
        seven = Chain(((1,) + (0,) * 6,) * 7, ("a",) * 7)
        self.judges(True, is_near_paper, seven, {(5, 6): (0, {(0, 0): 1}), (0, 0): (0, {(0, 0): 1})})


if __name__ == "__main__":
    unittest.main()
