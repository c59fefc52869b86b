"""[11.1] and [11.2]: papers for meeting."""

import unittest

from bothwalks.carrying import is_prices, plan_cost, worth
from bothwalks.chains import Chain
from bothwalks.errors import Never, NoState, TooMany
from bothwalks.meeting import soonest
from bothwalks.ties import free_ties
from bothwalks.waiting import is_meeting_paper, is_waiting_paper, meeting_paper, waiting_paper
from tests.helpers import Case, S, all_pairs, h, odd_objects, source, unlike_pairs
from tests.test_chains import COIN, SWAP, THREE, one_state, ring
from tests.test_meeting import FORK, LATE, drawn

LITTLE = S(1, 10 ** 12)
# 1 comes to 0 with a half, 2 to 1 with a third.
LATE_PAPER = {
    (0, 1): (2, {(0, 0): h, (0, 1): h}),
    (0, 2): (5, {(0, 1): S(1, 3), (0, 2): S(2, 3)}),
}
COIN_PAPER = {
    (0, 0): (0, None), (0, 1): (1, ((0, 0), (0, 0))), (1, 0): (1, ((0, 0), (0, 0))), (1, 1): (0, None),
}


class MeetingPaperTest(Case):

    def test_meeting_paper(self):
        self.assertEqual(meeting_paper(LATE, 0, 1), {(0, 1): LATE_PAPER[(0, 1)]})
        self.assertEqual(meeting_paper(LATE, 0, 2), LATE_PAPER)
        self.assertEqual(meeting_paper(COIN, 1, 0), {(1, 0): (1, {(0, 0): h, (1, 1): h})})
        self.assertEqual(meeting_paper(FORK, 0, 1), {(0, 1): (1, {(2, 2): h, (3, 3): h})})

    def test_drawn_chains(self):
        nones = 0
        for chain in list(drawn(111, 25, (2, 3, 4, 5))) + [FORK, LATE]:
            found = soonest(chain)
            for s, t in unlike_pairs(chain):
                if found[(s, t)] is None:
                    nones += 1
                    self.refuses(Never, {}, meeting_paper, chain, s, t)
                    continue
                paper = meeting_paper(chain, s, t)
                self.assertIs(type(paper), dict)
                self.assertIn((s, t), paper)
                self.assertEqual(list(paper), sorted(paper))
                self.judges(True, is_meeting_paper, chain, paper)
                for pair, (number, tie) in paper.items():
                    self.assertNotEqual(pair[0], pair[1])
                    self.is_share(number)
                    self.assertEqual(number, found[pair])
                    self.assertEqual(list(tie), sorted(tie))
                    self.are_shares(tie.values())
        self.assertGreater(nones, 10)

    def test_errors_in_turn(self):
        for thing in odd_objects() + [2, -1, S(0)]:
            self.refuses(NoState, {"state": thing}, meeting_paper, COIN, thing, 0)
            self.refuses(NoState, {"state": thing}, meeting_paper, COIN, 0, thing)
            self.refuses(NoState, {"state": thing}, meeting_paper, COIN, thing, 9)
            self.refuses(NoState, {"state": thing}, meeting_paper, SWAP, 1, thing)
        for chain in (COIN, SWAP, LATE, one_state(), ring(5)):
            for state in range(chain.size):
                self.refuses(Never, {}, meeting_paper, chain, state, state)
        self.refuses(Never, {}, meeting_paper, SWAP, 0, 1)
        self.refuses(Never, {}, meeting_paper, ring(5), 4, 0)
        self.refuses(TooMany, {"limit": 5}, meeting_paper, ring(6), 0, 0)


class IsMeetingPaperTest(Case):

    def test_right_ones(self):
        near, far = LATE_PAPER[(0, 1)], LATE_PAPER[(0, 2)]
        for paper in (
            {}, LATE_PAPER, {(0, 1): near}, {(0, 1): (S(2), near[1])}, {(0, 1): (2 + LITTLE, near[1])},
            {(0, 1): near, (0, 2): (5 + LITTLE, far[1])}, {(0, 1): near, (0, 2): (100, far[1])},
            {(0, 1): (3, near[1]), (0, 2): (6, far[1])}, {**LATE_PAPER, (1, 0): (2, {(0, 0): h, (1, 0): h})},
        ):
            self.judges(True, is_meeting_paper, LATE, paper)
        meet, miss = {(0, 0): h, (1, 1): h}, {(0, 1): h, (1, 0): h}
        for paper in (
            {(0, 1): (1, meet)}, {(1, 0): (1 + LITTLE, meet)}, {(0, 1): (3, miss), (1, 0): (1, meet)},
            {(0, 1): (4, miss), (1, 0): (2, meet)},
        ):
            self.judges(True, is_meeting_paper, COIN, paper)
        for number in (1, 2, S(5, 2), 3 - LITTLE):
            self.judges(False, is_meeting_paper, COIN, {(0, 1): (number, miss), (1, 0): (1, meet)})

    def test_numbers(self):
        near, far = LATE_PAPER[(0, 1)], LATE_PAPER[(0, 2)]
        for paper in (
            {(0, 1): (2 - LITTLE, near[1])}, {(0, 1): (1, near[1])}, {(0, 1): (0, near[1])}, {(0, 1): (-2, near[1])},
            {(0, 1): near, (0, 2): (5 - LITTLE, far[1])}, {(0, 1): (3, near[1]), (0, 2): (5, far[1])},
            {(0, 1): (True, near[1])}, {(0, 1): ("2", near[1])}, {(0, 1): (None, near[1])},
        ):
            self.judges(False, is_meeting_paper, LATE, paper)
        self.judges(False, is_meeting_paper, COIN, {(0, 1): (True, {(0, 0): h, (1, 1): h})})
        for low in (0, 1, 10 ** 20, -5):
            for high in (low, low + 1, low + 2):
                self.judges(False, is_meeting_paper, SWAP, {(0, 1): (low, {(1, 0): 1}), (1, 0): (high, {(0, 1): 1})})

    def test_pairs(self):
        near, far = LATE_PAPER[(0, 1)], LATE_PAPER[(0, 2)]
        for paper in (
            {(0, 2): far}, {**LATE_PAPER, (0, 0): (0, None)}, {**LATE_PAPER, (0, 0): (1, {(0, 0): 1})},
            {**LATE_PAPER, (0, 3): (1, None)}, {**LATE_PAPER, (-1, 0): near}, {**LATE_PAPER, (1, 1): (0, {})},
            {(0, True): near}, {(False, 1): near}, {(False, True): near}, {(0, True): near, (0, 2): far},
            {**LATE_PAPER, 0: near}, {**LATE_PAPER, "ab": near}, {**LATE_PAPER, (0, 1, 2): near}, {(0, 1): near, (): 0},
        ):
            self.judges(False, is_meeting_paper, LATE, paper)
        meet, miss = {(0, 0): h, (1, 1): h}, {(0, 1): h, (1, 0): h}
        self.judges(True, is_meeting_paper, COIN, {(0, 1): (10, meet), (1, 0): (10, meet)})
        self.judges(False, is_meeting_paper, COIN, {(0, 0): (11, miss), (0, 1): (10, meet), (1, 0): (10, meet)})
        self.judges(False, is_meeting_paper, one_state(), {(0, 0): (0, None)})
        self.judges(False, is_meeting_paper, one_state(), {(0, 0): (1, {(0, 0): 1})})

    def test_ties(self):
        for tie in (
            None, {}, {(0, 0): 1}, {(0, 0): h}, {(0, 0): h, (0, 1): h, (1, 1): 0}, {(0, 0): h, (1, 0): h},
            {(0, 0): h, (0, True): h}, {(False, 0): h, (0, 1): h}, {(0, 0): h, (0, 1): S(1, 3)}, [((0, 0), h)],
            {(0, 0): h, (0, 1): h, (0, 3): 1}, {(0, 0): h, (0, 1): h, None: 1}, (near_tie(),),
        ):
            self.judges(False, is_meeting_paper, LATE, {(0, 1): (50, tie)})
        self.judges(True, is_meeting_paper, LATE, {(0, 1): (50, near_tie())})

    def test_other_objects(self):
        number, tie = LATE_PAPER[(0, 1)]
        for thing in odd_objects():
            self.judges(thing == {} and isinstance(thing, dict), is_meeting_paper, LATE, thing)
            self.judges(False, is_meeting_paper, LATE, {(0, 1): thing})
            self.judges(False, is_meeting_paper, LATE, {(0, 1): (thing,)})
            self.judges(False, is_meeting_paper, LATE, {(0, 1): (number, thing)})
            self.judges(False, is_meeting_paper, LATE, {(0, 1): (number, tie, thing)})
            self.judges(False, is_meeting_paper, LATE, {(0, 1): [number, tie]})
            enough = isinstance(thing, (S, int)) and not isinstance(thing, bool) and not (S(0) + thing).less(2)
            self.judges(enough, is_meeting_paper, LATE, {(0, 1): (thing, tie)})

    def test_what_is_judged_right_is_right(self):
        draw = source(112)
        told = {True: 0, False: 0}
        for chain in list(drawn(113, 25, (2, 3, 4))) + [COIN, LATE]:
            found, free = soonest(chain), free_ties(chain)
            for s, t in unlike_pairs(chain):
                if found[(s, t)] is None:
                    continue
                for _ in range(4):
                    paper = meeting_paper(chain, s, t)
                    for pair in list(paper):
                        number, tie = paper[pair]
                        number = number + draw.choice([0, 0, 0, 0, 1, -1]) * S(1, draw.randint(2, 9))
                        paper[pair] = (number, free[pair] if draw.random() < 0.1 else tie)
                    right = is_meeting_paper(chain, paper)
                    told[right] += 1
                    numbers = {**{(u, u): 0 for u in range(chain.size)}, **{to: paper[to][0] for to in paper}}
                    self.assertIs(right, all(
                        all(to in numbers for to in tie) and not number.less(1 + plan_cost(numbers, tie))
                        for number, tie in paper.values()
                    ))
                    if right:
                        for pair in paper:
                            self.assertFalse(paper[pair][0].less(found[pair]))
        self.assertGreater(min(told.values()), 30)


def near_tie():
    return dict(LATE_PAPER[(0, 1)][1])


class WaitingPaperTest(Case):

    def test_waiting_paper(self):
        self.assertEqual(waiting_paper(one_state()), {(0, 0): (0, None)})
        paper = waiting_paper(COIN)
        self.assertEqual(list(paper), all_pairs(COIN))
        self.assertEqual([paper[pair][0] for pair in paper], [0, 1, 1, 0])

    def test_drawn_chains(self):
        nones, some = 0, 0
        for chain in list(drawn(114, 40, (2, 3, 4, 5))) + [FORK, LATE]:
            found = soonest(chain)
            if None in list(found.values()):
                self.refuses(Never, {}, waiting_paper, chain)
                nones += 1
                continue
            some += 1
            paper = waiting_paper(chain)
            self.assertIs(type(paper), dict)
            self.assertEqual(list(paper), all_pairs(chain))
            self.judges(True, is_waiting_paper, chain, paper)
            for (s, t), (number, prices) in paper.items():
                self.is_share(number)
                self.assertEqual(number, found[(s, t)])
                if s == t:
                    self.assertIs(prices, None)
                else:
                    self.judges(True, is_prices, found, prices)
                    self.are_shares(prices[0] + prices[1])
                    self.assertEqual(1 + worth(chain.row(s), chain.row(t), prices), number)
        self.assertGreater(min(nones, some), 5)

    def test_never(self):
        self.refuses(Never, {}, waiting_paper, SWAP)
        self.refuses(Never, {}, waiting_paper, THREE)
        self.refuses(Never, {}, waiting_paper, ring(5))
        self.refuses(TooMany, {"limit": 5}, waiting_paper, ring(6))


class IsWaitingPaperTest(Case):

    def test_right_ones(self):
        prices = COIN_PAPER[(0, 1)][1]
        for paper in (
            COIN_PAPER, {**COIN_PAPER, (0, 1): (1 - LITTLE, prices)}, {**COIN_PAPER, (0, 1): (0, prices)},
            {**COIN_PAPER, (0, 0): (S(0), None)}, {**COIN_PAPER, (1, 0): (S(1), ((S(5), 5), (-5, S(-5))))},
            {**COIN_PAPER, (0, 1): (h, ((-h, -h), (0, 0)))}, {**COIN_PAPER, (1, 0): (0, ((-2, 0), (0, 0)))},
        ):
            self.judges(True, is_waiting_paper, COIN, paper)
        self.judges(True, is_waiting_paper, one_state(), {(0, 0): (0, None)})
        # Where walks never meet, each number has a paper.
        for number in (0, 1, 2, 10 ** 20, S(7, 3)):
            self.judges(True, is_waiting_paper, SWAP, {
                (0, 0): (0, None), (0, 1): (number, ((0, number), (0, -number))), (1, 0): (number, ((number, 0), (-number, 0))),
                (1, 1): (0, None),
            })

    def test_numbers(self):
        prices = COIN_PAPER[(0, 1)][1]
        for paper in (
            {**COIN_PAPER, (0, 1): (1 + LITTLE, prices)}, {**COIN_PAPER, (0, 1): (2, prices)},
            {**COIN_PAPER, (0, 1): (-LITTLE, prices)}, {**COIN_PAPER, (0, 1): (-1, prices)},
            {**COIN_PAPER, (0, 0): (1, None)}, {**COIN_PAPER, (0, 0): (False, None)}, {**COIN_PAPER, (0, 0): (LITTLE, None)},
            {**COIN_PAPER, (0, 1): (True, prices)}, {**COIN_PAPER, (0, 1): (False, prices)},
            {**COIN_PAPER, (0, 1): ("1", prices)}, {**COIN_PAPER, (0, 1): (None, prices)},
            {**COIN_PAPER, (0, 1): (1, ((0, -LITTLE), (0, 0)))}, {**COIN_PAPER, (0, 1): (1, ((LITTLE, 0), (0, 0)))},
            {**COIN_PAPER, (0, 1): (1 + h, ((0, 1), (0, 0)))},
        ):
            self.judges(False, is_waiting_paper, COIN, paper)
        # The numbers are the costs: with a lower one the prices are too high.
        prices = ((1, 0), (-1, 0))
        paper = {**COIN_PAPER, (0, 1): (1, prices), (1, 0): (1, ((0, 0), (0, 0)))}
        self.judges(True, is_waiting_paper, COIN, paper)
        self.judges(False, is_waiting_paper, COIN, {**paper, (0, 1): (1 - LITTLE, prices)})

    def test_prices(self):
        for prices in (
            None, (), ((0, 0),), ((0, 0), (0, 0), (0, 0)), [(0, 0), (0, 0)], ([0, 0], (0, 0)), ((0,), (0,)),
            ((0, 0, 0), (0, 0, 0)), ((0, False), (0, 0)), ((0, 0), (True, 0)), ((0, "0"), (0, 0)), ((0, None), (0, 0)),
        ):
            self.judges(False, is_waiting_paper, COIN, {**COIN_PAPER, (0, 1): (1, prices)})
        self.judges(False, is_waiting_paper, COIN, {**COIN_PAPER, (0, 0): (0, ((0, 0), (0, 0)))})
        self.judges(False, is_waiting_paper, COIN, {**COIN_PAPER, (1, 1): (0, ())})

    def test_pairs(self):
        for pair in COIN_PAPER:
            lacking = {other: COIN_PAPER[other] for other in COIN_PAPER if other != pair}
            self.judges(False, is_waiting_paper, COIN, lacking)
            self.judges(False, is_waiting_paper, COIN, {**lacking, "x": COIN_PAPER[pair]})
            flagged = (bool(pair[0]), pair[1])
            self.judges(False, is_waiting_paper, COIN, {**lacking, flagged: COIN_PAPER[pair]})
        for key in ((2, 0), (0, 2), (-1, 0), 0, None, "ab", (0,), ()):
            self.judges(False, is_waiting_paper, COIN, {**COIN_PAPER, key: (0, None)})
        self.judges(False, is_waiting_paper, COIN, {})
        self.judges(False, is_waiting_paper, one_state(), {})
        self.judges(False, is_waiting_paper, one_state(), {(0, False): (0, None)})

    def test_other_objects(self):
        prices = COIN_PAPER[(0, 1)][1]
        for thing in odd_objects():
            self.judges(False, is_waiting_paper, COIN, thing)
            self.judges(False, is_waiting_paper, COIN, {**COIN_PAPER, (0, 0): thing})
            self.judges(False, is_waiting_paper, COIN, {**COIN_PAPER, (0, 1): thing})
            self.judges(thing is None, is_waiting_paper, COIN, {**COIN_PAPER, (0, 0): (0, thing)})
            self.judges(False, is_waiting_paper, COIN, {**COIN_PAPER, (0, 1): (1, thing)})
            self.judges(False, is_waiting_paper, COIN, {**COIN_PAPER, (0, 1): (1, (thing, (0, 0)))})
            self.judges(False, is_waiting_paper, COIN, {**COIN_PAPER, (0, 1): (1, prices, thing)})
            self.judges(False, is_waiting_paper, COIN, {**COIN_PAPER, (0, 0): (thing, None)})
            fits = isinstance(thing, S) and thing == h
            self.judges(fits, is_waiting_paper, COIN, {**COIN_PAPER, (0, 1): (thing, prices)})

    def test_what_is_judged_right_is_right(self):
        draw = source(115)
        told = {True: 0, False: 0}
        chains = [c for c in drawn(116, 60, (2, 3, 4)) if None not in list(soonest(c).values())]
        for chain in chains + [COIN, LATE]:
            found = soonest(chain)
            for _ in range(8):
                paper = waiting_paper(chain)
                for pair in unlike_pairs(chain):
                    number, prices = paper[pair]
                    if draw.random() < 0.15:
                        number = number * S(draw.randint(1, 9), 8)
                    paper[pair] = (number, prices)
                right = is_waiting_paper(chain, paper)
                told[right] += 1
                if right:
                    for pair in paper:
                        self.assertFalse(found[pair].less(paper[pair][0]))
        self.assertGreater(min(told.values()), 20)

    def test_more_states_than_papers_are_made_for(self):
        chain = Chain(((1,) + (0,) * 7,) * 8, ("a",) * 8)
        tie = {(0, 0): 1}
        self.judges(True, is_meeting_paper, chain, {(6, 7): (1, tie)})
        paper = {(s, t): (0, None) if s == t else (1, ((0,) * 8, (0,) * 8)) for s, t in all_pairs(chain)}
        self.judges(True, is_waiting_paper, chain, paper)
        self.judges(False, is_waiting_paper, chain, {**paper, (7, 6): (1 + LITTLE, ((0,) * 8, (0,) * 8))})


if __name__ == "__main__":
    unittest.main()
