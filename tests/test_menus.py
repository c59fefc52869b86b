"""[21.1]: menus."""

import itertools
import unittest

from bothwalks.chains import Chain
from bothwalks.errors import BadChain, BadMenu, BadWay, NoChoice, NoState, TooMany
from bothwalks.menus import Menu, single
from tests.helpers import Case, S, drawn_chain, drawn_menu, h, odd_objects, source
from tests.test_chains import COIN, THREE, one_state, ring

LITTLE = S(1, 10 ** 12)
MOVES = (((0, 1, 0), (0, h, h)), ((0, 1, 0),), ((0, 0, 1), (1, 0, 0), (0, 0, 1)))
MENU = Menu(MOVES, ("a", "a", "b"))


class MenuTest(Case):

    def holds(self, menu, moves, labels):
        self.assertIs(type(menu), Menu)
        self.assertEqual(menu.size, len(moves))
        self.assertEqual(vars(menu)["size"], len(moves))
        for state, options in enumerate(moves):
            self.assertEqual(menu.options(state), len(options))
            self.assertIs(type(menu.options(state)), int)
            self.assertEqual(menu.label(state), labels[state])
            for option, spread in enumerate(options):
                self.assertIs(type(menu.spread(state, option)), tuple)
                self.assertEqual(menu.spread(state, option), tuple(spread))
                self.are_shares(menu.spread(state, option))

    def test_it_holds_what_was_passed(self):
        self.holds(MENU, MOVES, "aab")
        self.holds(Menu((((1,),),), ("abcdefgh",)), (((1,),),), ("abcdefgh",))
        self.holds(Menu((((1,), (1,), (S(1),)),), ("a",)), (((1,), (1,), (1,)),), ("a",))

    def test_sizes(self):
        for many in range(1, 6):
            for options in range(1, 4):
                row = (0,) * (many - 1) + (1,)
                moves = ((row,) * options,) * many
                self.holds(Menu(moves, tuple("abcde"[:many])), moves, "abcde")

    def test_bad_moves(self):
        row = (1,) + (0,) * 5
        for moves in odd_objects() + [(), ((row,),) * 6, [((1,),)], {0: ((1,),)}]:
            if not isinstance(moves, tuple) or not 1 <= len(moves) <= 5:
                self.refuses(BadMenu, {"state": -1}, Menu, moves, ("a",))
                self.refuses(BadMenu, {"state": -1}, Menu, moves, None)
            else:
                self.refuses(BadMenu, {"state": 0}, Menu, moves, ("a",))

    def test_bad_options(self):
        good, labels = ((1, 0), (h, h)), ("a", "b")
        for options in odd_objects() + [
            (), [(1, 0)], ((1, 0), (0, 1), (h, h), (1, 0)), ((1, 0, 0),), ((1,),), ((1, 0), (1,)), ([1, 0],),
            ((h, S(1, 3)),), ((h, h + LITTLE),), ((2, -1),), ((True, 0),), ((1, False),), ((1, 0), None), ("ab",),
            (1, 0), ((0, 0),),
        ]:
            self.refuses(BadMenu, {"state": 0}, Menu, (options, good), labels)
            self.refuses(BadMenu, {"state": 1}, Menu, (good, options), labels)
            self.refuses(BadMenu, {"state": 0}, Menu, (options, options), labels)
            self.refuses(BadMenu, {"state": 1}, Menu, (good, options), ("a",))
        for thing in odd_objects():
            self.refuses(BadMenu, {"state": 1}, Menu, (good, (thing,)), labels)
            self.refuses(BadMenu, {"state": 1}, Menu, (good, ((1, 0), thing)), labels)
            self.refuses(BadMenu, {"state": 0}, Menu, (((1, thing),), good), labels)

    def test_bad_labels(self):
        moves = (((1, 0),), ((0, 1),))
        for labels in odd_objects() + [
            ("a",), ("a", "b", "c"), ["a", "b"], "ab", ("a", ""), ("a", "abcdefghi"), ("A", "b"), ("a", "b1"),
            ("a", None), ("a", "\xe4"), ("a", b"b"), (),
        ]:
            self.refuses(BadChain, {"part": "labels"}, Menu, moves, labels)
        for thing in odd_objects():
            if thing != "a":
                self.refuses(BadChain, {"part": "labels"}, Menu, moves, ("a", thing))

    def test_no_state(self):
        for thing in odd_objects() + [3, -1, S(0), S(1)]:
            self.refuses(NoState, {"state": thing}, MENU.options, thing)
            self.refuses(NoState, {"state": thing}, MENU.label, thing)
            self.refuses(NoState, {"state": thing}, MENU.spread, thing, 0)
            self.refuses(NoState, {"state": thing}, MENU.spread, thing, None)

    def test_no_choice(self):
        for thing in odd_objects() + [-1, 3, S(0), "0"]:
            for state in range(3):
                self.refuses(NoChoice, {"option": thing}, MENU.spread, state, thing)
        self.refuses(NoChoice, {"option": 1}, MENU.spread, 1, 1)
        self.refuses(NoChoice, {"option": 2}, MENU.spread, 0, 2)

    def test_equality(self):
        self.assertEqual(MENU, Menu(MOVES, ("a", "a", "b")))
        self.assertEqual(Menu((((h, h),), ((1, 0),)), ("a", "b")), Menu((((S(2, 4), h),), ((S(1), 0),)), ("a", "b")))
        for other in (
            Menu(MOVES, ("a", "a", "c")), Menu(MOVES[:2] + (((0, 0, 1),),), ("a", "a", "b")),
            Menu((MOVES[0][::-1],) + MOVES[1:], ("a", "a", "b")),
            Menu((MOVES[0][:1] * 2,) + MOVES[1:], ("a", "a", "b")),
            Menu((((1,),),), ("a",)), single(THREE),
        ):
            self.assertNotEqual(MENU, other)
            self.assertIs(MENU == other, False)
        for thing in odd_objects():
            self.assertIs(MENU == thing, False)
        self.assertIs(single(THREE) == THREE, False)


class FollowedTest(Case):

    def test_followed(self):
        draw = source(221)
        for menu in [MENU] + [drawn_menu(draw, many) for many in (1, 2, 3, 4, 5)]:
            for way in list(itertools.product(*[range(menu.options(state)) for state in range(menu.size)]))[:30]:
                chain = menu.followed(way)
                self.assertIs(type(chain), Chain)
                self.assertEqual(chain.size, menu.size)
                for state, option in enumerate(way):
                    self.assertEqual(chain.row(state), menu.spread(state, option))
                    self.assertEqual(chain.label(state), menu.label(state))

    def test_bad_way(self):
        for way in odd_objects() + [(0, 0), (0, 0, 0, 0), [0, 0, 0], "000", {0: 0, 1: 0, 2: 0}]:
            if not isinstance(way, tuple) or len(way) != 3:
                self.refuses(BadWay, {"state": -1}, MENU.followed, way)
        for thing in odd_objects() + [3, -1, S(0), "0"]:
            self.refuses(BadWay, {"state": 0}, MENU.followed, (thing, 0, 0))
            self.refuses(BadWay, {"state": 1}, MENU.followed, (0, thing, thing))
            self.refuses(BadWay, {"state": 2}, MENU.followed, (0, 0, thing))
            self.refuses(BadWay, {"state": 0}, MENU.followed, (thing, 7, True))
        self.refuses(BadWay, {"state": 1}, MENU.followed, (1, 1, 2))
        self.refuses(BadWay, {"state": 0}, MENU.followed, (2, 0, 2))
        self.assertEqual(MENU.followed((1, 0, 2)).row(0), (0, h, h))


class SingleTest(Case):

    def test_single(self):
        draw = source(222)
        for chain in [COIN, THREE, one_state(), ring(5)] + [drawn_chain(draw, many) for many in (2, 3, 4, 5)]:
            menu = single(chain)
            self.assertIs(type(menu), Menu)
            self.assertEqual(menu.size, chain.size)
            for state in range(chain.size):
                self.assertEqual(menu.options(state), 1)
                self.assertEqual(menu.spread(state, 0), chain.row(state))
                self.assertEqual(menu.label(state), chain.label(state))
            self.assertEqual(menu.followed((0,) * chain.size), chain)

    def test_too_many(self):
        self.refuses(TooMany, {"limit": 5}, single, ring(6))
        self.refuses(TooMany, {"limit": 5}, single, ring(8))


if __name__ == "__main__":
    unittest.main()
