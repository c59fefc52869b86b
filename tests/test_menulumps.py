"""[21.2]: lumps of menus."""

import itertools
import unittest

from bothwalks.lumps import is_lumping, lumps
from bothwalks.menulumps import is_menu_lumping, menu_lumps
from bothwalks.menus import Menu, single
from tests.helpers import Case, S, drawn_chain, drawn_menu, fraction, h, odd_objects, source
from tests.test_chains import SWAP, THREE, ring
from tests.test_lumps import chains as doubled_chains

# 0 and 1 have the same options, 1 one of them twice, and 2 has one more than they have.
TRIO = Menu((
    ((0, 0, 0, 1), (h, h, 0, 0)), ((0, 1, 0, 0), (0, 0, 0, 1), (1, 0, 0, 0)),
    ((0, 1, 0, 0), (0, 0, 0, 1), (0, 0, 1, 0)), ((0, 0, 0, 1),),
), ("a", "a", "a", "b"))


def partitions(states):
    """All partitions of a list of states, as lists of tuples."""
    if not states:
        yield []
        return
    for rest in partitions(states[1:]):
        yield [(states[0],)] + rest
        for at in range(len(rest)):
            yield rest[:at] + [(states[0],) + rest[at]] + rest[at + 1:]


def is_right(menu, parts):
    """Whether a partition has both properties."""
    def shares(state):
        return {
            tuple(sum(fraction(menu.spread(state, option)[to]) for to in part) for part in parts)
            for option in range(menu.options(state))
        }
    return all(
        menu.label(one) == menu.label(other) and shares(one) == shares(other)
        for part in parts for one in part for other in part
    )


def drawn(seed, many, sizes=(1, 2, 3, 4, 5)):
    """Drawn menus, some of whose states are like others."""
    draw = source(seed)
    for _ in range(many):
        size = draw.choice(sizes)
        menu = drawn_menu(draw, size, draw.choice(["a", "aab"]), draw.choice([0.5, 0.8]), draw.choice([1, 2, 3]))
        moves = [[menu.spread(state, option) for option in range(menu.options(state))] for state in range(size)]
        labels = [menu.label(state) for state in range(size)]
        for _ in range(draw.randint(0, 2)):
            one, other = draw.randrange(size), draw.randrange(size)
            moves[other], labels[other] = draw.sample(moves[one], len(moves[one])), labels[one]
            if len(moves[other]) < 3:
                moves[other] = moves[other] + moves[other][:1]
        yield Menu(tuple(tuple(options) for options in moves), tuple(labels))


class MenuLumpsTest(Case):

    def test_menu_lumps(self):
        self.assertEqual(menu_lumps(TRIO), [(0, 1, 2), (3,)])
        self.assertEqual(menu_lumps(single(SWAP)), [(0, 1)])
        self.assertEqual(menu_lumps(single(THREE)), [(0,), (1,), (2,)])
        self.assertEqual(menu_lumps(single(ring(5))), [(0,), (1,), (2,), (3,), (4,)])
        self.assertEqual(menu_lumps(Menu((((1,), (1,)),), ("a",))), [(0,)])
        menu = Menu((((0, 1, 0), (0, h, h)), ((0, 1, 0),), ((0, 0, 1),)), ("a", "a", "b"))
        self.assertEqual(menu_lumps(menu), [(0,), (1,), (2,)])
        # With the other label gone, nothing can be told any more.
        unlabelled = Menu((((0, 1, 0), (0, h, h)), ((0, 1, 0),), ((0, 0, 1),)), ("a", "a", "a"))
        self.assertEqual(menu_lumps(unlabelled), [(0, 1, 2)])

    def test_an_option_that_only_one_of_both_has(self):
        row, away = (0, 0, 1, 0), (0, 0, 0, 1)
        for options in ((row,), (away,), (row, row), (row, away, row), (away, row), (row, row, row)):
            menu = Menu(((row, away), options, (row,), (away,)), ("a", "a", "a", "b"))
            self.assertEqual(any(0 in part and 1 in part for part in menu_lumps(menu)), {row, away} == set(options))

    def test_rounds_of_cutting(self):
        # What tells 0 from 1 is found behind that which tells 2 from 3.
        menu = Menu((
            ((0, 0, 1, 0, 0),), ((0, 0, 0, 1, 0),), ((0, 0, 0, 0, 1),), ((0, 0, 0, 1, 0),), ((0, 0, 0, 0, 1),),
        ), ("a", "a", "a", "a", "b"))
        self.assertEqual(menu_lumps(menu), [(0,), (1, 3), (2,), (4,)])

    def test_the_coarsest_of_all_partitions(self):
        together = 0
        for menu in list(drawn(231, 60)) + [TRIO]:
            found = menu_lumps(menu)
            self.assertIs(type(found), list)
            right = [parts for parts in partitions(list(range(menu.size))) if is_right(menu, parts)]
            least = min(len(parts) for parts in right)
            coarsest = [sorted(tuple(sorted(part)) for part in parts) for parts in right if len(parts) == least]
            self.assertEqual([found], coarsest)
            for part in found:
                self.assertIs(type(part), tuple)
            together += len(found) < menu.size
        self.assertGreater(together, 20)

    def test_for_chains(self):
        for chain in list(doubled_chains(232, 30)) + [SWAP, THREE]:
            if chain.size <= 5:
                self.assertEqual(menu_lumps(single(chain)), lumps(chain))
                for parts in partitions(list(range(chain.size))):
                    self.assertIs(is_menu_lumping(single(chain), parts), is_lumping(chain, parts))


class IsMenuLumpingTest(Case):

    def test_all_partitions(self):
        told = {True: 0, False: 0}
        for menu in drawn(233, 30):
            for parts in partitions(list(range(menu.size))):
                right = is_right(menu, parts)
                told[right] += 1
                self.judges(right, is_menu_lumping, menu, parts)
                self.judges(right, is_menu_lumping, menu, tuple(parts))
                self.judges(right, is_menu_lumping, menu, [part[::-1] for part in parts[::-1]])
        self.assertGreater(min(told.values()), 50)

    def test_each_in_its_own_and_all_in_one(self):
        for menu in drawn(234, 10):
            self.judges(True, is_menu_lumping, menu, [(state,) for state in range(menu.size)])
            self.judges(True, is_menu_lumping, menu, menu_lumps(menu))
            everything = [tuple(range(menu.size))]
            self.judges(is_right(menu, everything), is_menu_lumping, menu, everything)

    def test_what_is_no_partition(self):
        self.judges(True, is_menu_lumping, TRIO, [(0, 1, 2), (3,)])
        for thing in (
            [(0, 1), (3,)], [(0, 1, 2), (3,), ()], [(0, 1, 2), (3,), (3,)], [(0, 1, 2, 2), (3,)], [(0, 1, 2), (3, 4)],
            [[0, 1, 2], [3]], [(0, 1, 2), [3]], [(0, True, 2), (3,)], [(False, 1, 2), (3,)], [(0, 1, 2), 3], [(0, 1, 2)],
            [(0, 1, 2), (-1,)], [(0, 1, 2), (S(3),)], {(0, 1, 2): 1, (3,): 1}, [], (), [()], "0123", [(0, 1, 2, 3)],
            {(0, 1, 2), (3,)}, [(0, 1, 2), ("3",)], [(0, 1, 2), (3,), (4,)],
        ):
            self.judges(False, is_menu_lumping, TRIO, thing)

    def test_labels(self):
        menu = Menu((((1, 0),), ((0, 1),)), ("a", "b"))
        self.judges(False, is_menu_lumping, menu, [(0, 1)])
        self.judges(True, is_menu_lumping, menu, [(1,), (0,)])
        self.judges(True, is_menu_lumping, Menu((((1, 0),), ((0, 1),)), ("a", "a")), [(0, 1)])

    def test_other_objects(self):
        one = Menu((((1,),),), ("a",))
        self.judges(True, is_menu_lumping, one, [(0,)])
        for thing in odd_objects():
            self.judges(False, is_menu_lumping, TRIO, thing)
            self.judges(False, is_menu_lumping, TRIO, [(0, 1, 2), thing])
            self.judges(False, is_menu_lumping, TRIO, [(0, 1, 2), (3,), thing])
            self.judges(False, is_menu_lumping, TRIO, [(0, 1, 2), (thing,)])
            self.judges(False, is_menu_lumping, one, [(thing,)])

    def test_for_drawn_chains(self):
        draw = source(235)
        for _ in range(10):
            chain = drawn_chain(draw, 4, "aab", 0.7)
            for parts in itertools.islice(partitions([0, 1, 2, 3]), 15):
                self.assertIs(is_menu_lumping(single(chain), parts), is_lumping(chain, parts))


if __name__ == "__main__":
    unittest.main()
