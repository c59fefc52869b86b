"""The examples of the document, as they are written."""

import unittest

from bothwalks.amounts import amounts
from bothwalks.below import kept_below, rising
from bothwalks.both import Both
from bothwalks.carrying import carry
from bothwalks.chains import Chain
from bothwalks.choices import Choices, best_worths
from bothwalks.draws import same_draw
from bothwalks.duels import duel_distance
from bothwalks.equations import solve
from bothwalks.errors import BadText
from bothwalks.gathering import gather_word, stuck
from bothwalks.lumps import lumps
from bothwalks.meeting import never_meet, soonest
from bothwalks.menulumps import menu_lumps
from bothwalks.menus import Menu, single
from bothwalks.near import distance
from bothwalks.orders import line, under, up_sets
from bothwalks.seen import gap_rows, unlike_seen
from bothwalks.shares import Share
from bothwalks.texts import read, written
from bothwalks.ties import close_ties, free_ties, tied_mean
from bothwalks.walking import closed_parts, ends, period
from bothwalks.within import met_within

S = Share
h = S(1, 2)
three = Chain(((0, h, h), (0, 1, 0), (0, 0, 1)), ("a", "a", "b"))
coin = Chain(((h, h), (h, h)), ("a", "b"))
swap = Chain(((0, 1), (1, 0)), ("a", "a"))


class ExamplesTest(unittest.TestCase):

    def test_e01(self):
        self.assertEqual(str(S(6, -8)), "-3/4")
        self.assertIs(S(1, 2) + 1 == S(3, 2), True)
        self.assertIs(S(1) == True, False)  # noqa: E712

    def test_e02(self):
        self.assertEqual(solve(((1, 1), (1, -1)), (3, 1)), ("one", (S(2), S(1))))

    def test_e03(self):
        self.assertEqual(amounts(((1, 1),), (-1,))[0], "none")

    def test_e04(self):
        self.assertEqual(carry((h, h), (1, 0), {(0, 0): 0, (0, 1): 1, (1, 0): 1, (1, 1): 0})[0], h)

    def test_e05(self):
        self.assertEqual(closed_parts(three), [(1,), (2,)])
        self.assertEqual(ends(three, 0), {(1,): h, (2,): h})
        self.assertEqual(period(swap, 0), 2)

    def test_e06(self):
        self.assertEqual(lumps(swap), [(0, 1)])
        self.assertEqual(lumps(three), [(0,), (1,), (2,)])

    def test_e07(self):
        self.assertEqual(unlike_seen(three, 0, 1), (("a", "a"), h, S(1)))
        self.assertEqual(gap_rows(three, 0, 1, 1), [("a", "b")])

    def test_e08(self):
        self.assertEqual(tied_mean(coin, free_ties(coin), 0, 1), S(2))
        self.assertEqual(tied_mean(coin, close_ties(coin), 0, 1), S(1))
        self.assertIs(tied_mean(swap, free_ties(swap), 0, 1), None)

    def test_e09(self):
        self.assertEqual(distance(three, 0, 1), h)
        self.assertEqual(distance(swap, 0, 1), S(0))

    def test_e10(self):
        self.assertEqual(soonest(coin)[(0, 1)], S(1))
        self.assertEqual(never_meet(swap), [(0, 1), (1, 0)])
        self.assertEqual(met_within(coin, 0, 1, 1), S(1))

    def test_e11(self):
        self.assertEqual(under(line(3), (1, 0, 0), (0, 0, 1)), ("plan", {(0, 2): S(1)}))
        self.assertEqual(up_sets(line(2)), [(), (0, 1), (1,)])

    def test_e12(self):
        self.assertEqual(kept_below(line(2), coin, coin), [(0, 0), (0, 1), (1, 1)])
        self.assertEqual(rising(swap, line(2)), (0, 1, (1,)))

    def test_e13(self):
        self.assertEqual(same_draw(coin).parts, ((h, (0, 0)), (h, (1, 1))))
        self.assertEqual(gather_word(same_draw(coin)), (0,))
        self.assertEqual(stuck(same_draw(swap)), [(0, 1)])

    def test_e14(self):
        self.assertEqual(best_worths(Choices(((("go", 1, (1,)), ("no", 0, (1,))),), h)), (S(2),))

    def test_e15(self):
        self.assertEqual(Both(coin, close_ties(coin), 0, 1).step(S(1, 4)), (0, 0))

    def test_e16(self):
        self.assertEqual(written(coin), "a: 1/2 1/2\nb: 1/2 1/2\n")
        with self.assertRaises(BadText) as caught:
            read("a: 1\nb: 1\n")
        self.assertEqual(caught.exception.line, 1)

    def test_e18(self):
        menu = Menu((((0, 1, 0), (0, h, h)), ((0, 1, 0),), ((0, 0, 1),)), ("a", "a", "b"))
        self.assertEqual(duel_distance(menu, 0, 1), h)

    def test_e19(self):
        self.assertEqual(menu_lumps(single(swap)), [(0, 1)])


if __name__ == "__main__":
    unittest.main()
