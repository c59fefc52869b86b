"""[18.1] and [18.2]: keepers of papers."""

import copy
import unittest

from bothwalks.chains import Chain
from bothwalks.errors import BadChain, BadPaper, NoState, NothingDone
from bothwalks.keepers import Keeper
from bothwalks.meeting import soonest
from bothwalks.papers import is_near_paper, near_paper
from bothwalks.waiting import is_meeting_paper, meeting_paper
from tests.helpers import Case, S, all_pairs, drawn_chain, drawn_spread, h, odd_objects, source, unlike_pairs
from tests.test_chains import COIN, SWAP, THREE, one_state

LITTLE = S(1, 10 ** 12)
# 0 and 1 go to 2 at once, whatever the labels of 3 are.
MEET = Chain(((0, 0, 1, 0), (0, 0, 1, 0), (0, 0, 1, 0), (0, 0, 0, 1)), ("a", "a", "a", "b"))
TIE = {(2, 2): 1}
NEAR = {(0, 1): (0, TIE), (2, 2): (0, {(2, 2): 1})}
MEETING = {(0, 1): (1, TIE)}
FAR = {(0, 3): (1, None)}


class KeeperCase(Case):

    def stands(self, keeper, told):
        """The papers that stand are these, as they are judged now."""
        found = keeper.papers()
        self.assertIs(type(found), dict)
        self.assertEqual(list(found), sorted(told))
        for number, paper in told.items():
            self.assertIs(type(found[number]), tuple)
            kept, near, meeting = found[number]
            self.assertEqual(kept, paper)
            self.assertIs(near, is_near_paper(keeper.chain, paper))
            self.assertIs(meeting, is_meeting_paper(keeper.chain, paper))
            self.assertTrue(near or meeting)


class KeeperTest(KeeperCase):

    def test_a_new_keeper(self):
        keeper = Keeper(THREE)
        self.assertIs(vars(keeper)["chain"], THREE)
        self.assertEqual(keeper.papers(), {})
        self.refuses(NothingDone, {}, keeper.undo)
        self.assertEqual(Keeper(one_state()).keep({}), 0)

    def test_keep_numbers_papers(self):
        keeper = Keeper(MEET)
        self.assertEqual([keeper.keep(paper) for paper in (NEAR, MEETING, {}, NEAR, FAR)], [0, 1, 2, 3, 4])
        self.stands(keeper, {0: NEAR, 1: MEETING, 2: {}, 3: NEAR, 4: FAR})
        self.assertEqual([told[1:] for told in keeper.papers().values()], [
            (True, False), (False, True), (True, True), (True, False), (True, False),
        ])

    def test_bad_paper(self):
        keeper = Keeper(MEET)
        keeper.keep(NEAR)
        for thing in odd_objects() + [
            {**NEAR, (0, 1): (-1, TIE)}, {(0, 1): (1 - LITTLE, TIE)}, {(0, 1): (0, TIE)}, {(0, True): (1, TIE)},
            {(0, 1): [1, TIE]}, {(0, 1): (1, {(2, True): 1})}, {(0, 1): (1, {(2, 2): h})}, {(0, 4): (1, None)},
            {(0, 1): (1, TIE), (0, 3): (1, None)}, {(0, 3): (1 - LITTLE, None)}, [NEAR], (NEAR,), {(0, 0): (1, None, 1)},
        ]:
            if not (isinstance(thing, dict) and thing == {}):
                self.refuses(BadPaper, {}, keeper.keep, thing)
        self.stands(keeper, {0: NEAR})
        self.assertEqual(keeper.keep(FAR), 1)
        keeper.undo()
        keeper.undo()
        self.refuses(NothingDone, {}, keeper.undo)

    def test_edits(self):
        keeper = Keeper(THREE)
        keeper.row(0, (1, 0, 0))
        self.assertEqual(keeper.chain, THREE.with_row(0, (1, 0, 0)))
        keeper.label(1, "zz")
        self.assertEqual(keeper.chain, THREE.with_row(0, (1, 0, 0)).with_label(1, "zz"))
        for _ in range(2):
            keeper.undo()
        self.assertEqual(keeper.chain, THREE)
        self.refuses(NothingDone, {}, keeper.undo)
        self.assertEqual(keeper.chain, THREE)

    def test_errors_of_edits(self):
        keeper = Keeper(MEET)
        keeper.keep(NEAR)
        for thing in odd_objects() + [4, -1, S(0)]:
            self.refuses(NoState, {"state": thing}, keeper.row, thing, (1, 0, 0, 0))
            self.refuses(NoState, {"state": thing}, keeper.row, thing, None)
            self.refuses(NoState, {"state": thing}, keeper.label, thing, "a")
            self.refuses(NoState, {"state": thing}, keeper.label, thing, 7)
        for thing in odd_objects() + [(1, 0, 0), (1, 0, 0, 0, 0), (h, h, h, 0), (1, 0, 0, False), [1, 0, 0, 0]]:
            self.refuses(BadChain, {"part": "rows"}, keeper.row, 2, thing)
            if thing != "a":
                self.refuses(BadChain, {"part": "labels"}, keeper.label, 2, thing)
        self.assertEqual(keeper.chain, MEET)
        self.stands(keeper, {0: NEAR})
        keeper.undo()
        self.refuses(NothingDone, {}, keeper.undo)

    def test_papers_that_fall(self):
        keeper = Keeper(MEET)
        for paper in (NEAR, FAR, MEETING, {}, NEAR):
            keeper.keep(paper)
        # With other labels both walks meet as they did.
        self.assertEqual(keeper.label(0, "b"), (0, 4))
        self.stands(keeper, {1: FAR, 2: MEETING, 3: {}})
        self.assertEqual(keeper.label(0, "a"), ())
        self.stands(keeper, {1: FAR, 2: MEETING, 3: {}})
        fallen = keeper.row(1, (0, 0, 0, 1))
        self.assertIs(type(fallen), tuple)
        self.assertEqual(fallen, (2,))
        self.stands(keeper, {1: FAR, 3: {}})
        keeper.undo()
        self.stands(keeper, {1: FAR, 2: MEETING, 3: {}})
        keeper.undo()
        keeper.undo()
        self.stands(keeper, {0: NEAR, 1: FAR, 2: MEETING, 3: {}, 4: NEAR})

    def test_the_empty_paper_never_falls(self):
        keeper = Keeper(SWAP)
        self.assertEqual(keeper.keep({}), 0)
        for state in (0, 1):
            self.assertEqual(keeper.row(state, (h, h)), ())
            self.assertEqual(keeper.label(state, "cd"[state]), ())
        self.assertEqual(keeper.papers(), {0: ({}, True, True)})

    def test_both_at_once(self):
        # What a near paper's ties lead to is in it, and equal states are in no meeting paper; but ties
        # that lead to unlike states alone never meet. So of all papers only the empty one is both.
        draw = source(196)
        for _ in range(12):
            chain = drawn_chain(draw, 4, "a")
            keeper = Keeper(chain)
            empty = keeper.keep({})
            for s, t in unlike_pairs(chain):
                near = keeper.keep(near_paper(chain, s, t))
                self.assertEqual(keeper.papers()[near][1:], (True, False))
                if soonest(chain)[(s, t)] is not None:
                    meeting = keeper.keep(meeting_paper(chain, s, t))
                    self.assertEqual(keeper.papers()[meeting][1:], (False, True))
            for state in range(4):
                keeper.row(state, drawn_spread(draw, 4))
                for number, (paper, near, meeting) in keeper.papers().items():
                    self.assertIs(near and meeting, number == empty)
            self.assertEqual(keeper.papers()[empty], ({}, True, True))

    def test_a_paper_stays_what_it_is(self):
        # With a number that is high enough it stands other rows, too, if the tie still fits.
        keeper = Keeper(COIN)
        meet = {(0, 0): h, (1, 1): h}
        self.assertEqual(keeper.keep({(0, 1): (5, meet), (1, 0): (1, meet)}), 0)
        self.assertEqual(keeper.keep({(0, 1): (S(7, 2), None), (0, 0): (1, None)}), 1)
        self.assertEqual(keeper.label(0, "b"), ())
        self.assertEqual(keeper.row(0, (h, S(2, 4))), ())
        self.assertEqual(keeper.row(0, (h - LITTLE, h + LITTLE)), (0,))
        self.assertEqual(keeper.papers(), {1: ({(0, 0): (1, None), (0, 1): (S(7, 2), None)}, True, False)})


class UndoTest(KeeperCase):

    def test_numbers_that_were_given_back_are_not_used_again(self):
        keeper = Keeper(MEET)
        self.assertEqual(keeper.keep(NEAR), 0)
        self.assertEqual(keeper.keep(FAR), 1)
        self.assertIs(keeper.undo(), None)
        self.assertEqual(keeper.keep(MEETING), 2)
        self.stands(keeper, {0: NEAR, 2: MEETING})
        keeper.undo()
        keeper.undo()
        self.assertEqual(keeper.papers(), {})
        self.refuses(NothingDone, {}, keeper.undo)
        self.assertEqual(keeper.keep(NEAR), 3)
        self.stands(keeper, {3: NEAR})

    def test_undo_brings_back_what_fell(self):
        keeper = Keeper(MEET)
        keeper.keep(MEETING)
        keeper.keep(NEAR)
        self.assertEqual(keeper.row(0, (0, 0, 0, 1)), (0, 1))
        self.assertEqual(keeper.papers(), {})
        self.assertEqual(keeper.keep(FAR), 2)
        self.assertIs(keeper.undo(), None)
        self.assertIs(keeper.undo(), None)
        self.assertEqual(keeper.chain, MEET)
        self.stands(keeper, {0: MEETING, 1: NEAR})
        self.assertEqual(keeper.label(3, "c"), ())
        self.stands(keeper, {0: MEETING, 1: NEAR})

    def test_an_edit_that_changes_nothing_is_an_edit(self):
        keeper = Keeper(MEET)
        keeper.row(0, MEET.row(0))
        keeper.label(0, "a")
        keeper.undo()
        keeper.undo()
        self.refuses(NothingDone, {}, keeper.undo)

    def test_any_mixture_down_to_nothing(self):
        draw = source(191)
        fell = 0
        for _ in range(12):
            keeper = Keeper(drawn_chain(draw, 3, "aab"))
            past, used = [], []
            for _ in range(40):
                now = (keeper.chain, keeper.papers())
                do = draw.choice(["keep", "keep", "row", "label", "undo"])
                if do == "undo":
                    if not past:
                        self.refuses(NothingDone, {}, keeper.undo)
                        continue
                    self.assertIs(keeper.undo(), None)
                    chain, papers = past.pop()
                    self.assertEqual(keeper.chain, chain)
                    self.assertEqual(keeper.papers(), papers)
                    continue
                past.append(now)
                if do == "keep":
                    paper = self.some_paper(draw, keeper.chain)
                    number = keeper.keep(paper)
                    self.assertEqual(number, len(used))
                    used.append(number)
                    self.assertEqual(keeper.papers()[number][0], paper)
                else:
                    fallen = self.some_edit(draw, keeper, do)
                    gone = [number for number in now[1] if number not in keeper.papers()]
                    self.assertEqual(fallen, tuple(sorted(gone)))
                    fell += len(fallen)
                    self.stands(keeper, {number: now[1][number][0] for number in now[1] if number not in gone})
                    for number in gone:
                        paper = now[1][number][0]
                        self.assertFalse(is_near_paper(keeper.chain, paper))
                        self.assertFalse(is_meeting_paper(keeper.chain, paper))
            while past:
                keeper.undo()
                chain, papers = past.pop()
                self.assertEqual(keeper.chain, chain)
                self.assertEqual(keeper.papers(), papers)
            self.refuses(NothingDone, {}, keeper.undo)
        self.assertGreater(fell, 30)

    def some_paper(self, draw, chain):
        s, t = draw.choice(unlike_pairs(chain))
        if draw.random() < 0.5 and soonest(chain)[(s, t)] is not None:
            return meeting_paper(chain, s, t)
        return near_paper(chain, s, t)

    def some_edit(self, draw, keeper, do):
        state = draw.randrange(3)
        if do == "row":
            return keeper.row(state, drawn_spread(draw, 3))
        return keeper.label(state, draw.choice("ab"))


class CopyTest(KeeperCase):

    def test_what_was_passed_may_be_changed(self):
        keeper = Keeper(MEET)
        paper = copy.deepcopy(NEAR)
        before = copy.deepcopy(paper)
        keeper.keep(paper)
        self.assertEqual(paper, before)
        paper[(0, 1)][1][(0, 0)] = 5
        del paper[(2, 2)]
        self.stands(keeper, {0: NEAR})
        self.assertEqual(keeper.label(3, "d"), ())

    def test_what_came_of_papers_may_be_changed(self):
        keeper = Keeper(MEET)
        keeper.keep(NEAR)
        keeper.keep(FAR)
        found = keeper.papers()
        found[0][0][(0, 1)][1].clear()
        found[0][0].clear()
        found.clear()
        self.stands(keeper, {0: NEAR, 1: FAR})
        keeper.label(0, "b")
        keeper.undo()
        self.stands(keeper, {0: NEAR, 1: FAR})

    def test_keys_ascend_and_numbers_are_shares(self):
        keeper = Keeper(COIN)
        keeper.keep({(1, 0): (1, {(1, 1): h, (0, 0): h}), (0, 1): (2, {(1, 1): h, (0, 0): h})})
        keeper.keep({(1, 0): (1, None), (0, 1): (3, None)})
        for paper, _, _ in keeper.papers().values():
            self.assertEqual(list(paper), [(0, 1), (1, 0)])
            for number, tie in paper.values():
                self.is_share(number)
                if tie is not None:
                    self.assertEqual(list(tie), [(0, 0), (1, 1)])
                    self.are_shares(tie.values())
        one = Keeper(one_state())
        one.keep({(0, 0): (0, {(0, 0): 1})})
        self.are_shares(one.papers()[0][0][(0, 0)][1].values())

    def test_keepers_hang_on_no_other(self):
        first, second = Keeper(MEET), Keeper(MEET)
        first.keep(NEAR)
        first.label(0, "b")
        self.assertEqual(second.papers(), {})
        self.assertEqual(second.chain, MEET)
        self.refuses(NothingDone, {}, second.undo)


class NoCascadeTest(KeeperCase):

    def test_rows_of_states_in_no_pair_with_a_tie(self):
        draw = source(193)
        stood = 0
        for _ in range(40):
            chain = drawn_chain(draw, 4, "aab", 0.6)
            s, t = draw.choice(all_pairs(chain))
            papers = [near_paper(chain, s, t)]
            if s != t and soonest(chain)[(s, t)] is not None:
                papers.append(meeting_paper(chain, s, t))
            for paper in papers:
                with_tie = {state for pair, (_, tie) in paper.items() if tie is not None for state in pair}
                for state in sorted({0, 1, 2, 3} - with_tie):
                    keeper = Keeper(chain)
                    number = keeper.keep(paper)
                    before = keeper.papers()
                    self.assertEqual(keeper.row(state, drawn_spread(draw, 4)), ())
                    self.assertEqual(keeper.papers(), before)
                    self.assertEqual(list(before), [number])
                    stood += 1
        self.assertGreater(stood, 20)


if __name__ == "__main__":
    unittest.main()
