"""[17.1] and [17.2]: machines with choices."""

import itertools
import unittest

from bothwalks.chains import Chain
from bothwalks.choices import Choices, best_way, best_worths, is_best_worths, way_chain, worths
from bothwalks.errors import BadChain, BadChoices, BadFactor, BadWay, NoOption, NoState
from tests.helpers import Case, S, drawn_choices, fraction, fractions, h, odd_objects, source

LITTLE = S(1, 10 ** 12)
STAY = ("stay", 1, (1, 0))
# In 0 one may stay for 1 or go to 1 for -1; 1 pays 3 with "b" and 4 with "zz", which leads back.
MOVES = ((("stay", 1, (1, 0)), ("go", -1, (0, 1))), (("zz", 4, (1, 0)), ("b", 3, (0, 1))))
TWO = Choices(MOVES, h)


def one_state(*options):
    """A machine with one state."""
    return Choices((tuple(options),), h)


def all_ways(choices):
    return list(itertools.product(*[choices.names(state) for state in range(choices.size)]))


def drawn(seed, many, sizes=(1, 2, 3, 4, 5)):
    draw = source(seed)
    for _ in range(many):
        yield drawn_choices(draw, draw.choice(sizes), draw.choice([1, 2, 3, 3]))


def value_of(choices, state, name, known):
    """What an option is worth, in fractions, with known worths of what comes next."""
    onward = sum(fraction(share) * fraction(worth) for share, worth in zip(choices.row(state, name), known))
    return fraction(choices.pay(state, name)) + fraction(choices.factor) * onward


class ChoicesTest(Case):

    def test_it_holds_what_was_passed(self):
        self.assertEqual(TWO.size, 2)
        self.assertEqual(TWO.factor, h)
        self.assertEqual(TWO.names(0), ("go", "stay"))
        self.assertEqual(TWO.names(1), ("b", "zz"))
        for state, options in enumerate(MOVES):
            for name, pay, spread in options:
                self.assertEqual(TWO.pay(state, name), pay)
                self.assertEqual(TWO.row(state, name), spread)
                self.is_share(TWO.pay(state, name))
                self.assertIs(type(TWO.row(state, name)), tuple)
                self.are_shares(TWO.row(state, name))
        self.is_share(TWO.factor)
        self.assertEqual(vars(TWO)["size"], 2)
        self.assertEqual(vars(TWO)["factor"], h)

    def test_names_ascend_whatever_the_order(self):
        for names in itertools.permutations(("b", "ab", "abc")):
            choices = one_state(*[(name, at, (1,)) for at, name in enumerate(names)])
            self.assertEqual(choices.names(0), ("ab", "abc", "b"))
            self.assertIs(type(choices.names(0)), tuple)
            for at, name in enumerate(names):
                self.assertEqual(choices.pay(0, name), at)

    def test_sizes(self):
        for many in range(1, 6):
            for options in range(1, 4):
                row = (1,) + (0,) * (many - 1)
                moves = tuple(tuple((name, 0, row) for name in "abc"[:options]) for _ in range(many))
                choices = Choices(moves, h)
                self.assertEqual(choices.size, many)
                self.assertEqual([choices.names(state) for state in range(many)], [tuple("abc"[:options])] * many)

    def test_equal_options_but_for_their_names(self):
        choices = one_state(("b", h, (1,)), ("a", h, (1,)))
        self.assertEqual(choices.names(0), ("a", "b"))
        self.assertEqual(best_worths(choices), (1,))
        self.assertEqual(best_way(choices), ("a",))

    def test_bad_moves(self):
        row = (1,) + (0,) * 5
        for moves in odd_objects() + [(), tuple((("a", 0, row),) for _ in range(6)), [MOVES[0], MOVES[1]]]:
            if not isinstance(moves, tuple) or not 1 <= len(moves) <= 5:
                self.refuses(BadChoices, {"state": -1}, Choices, moves, h)
                self.refuses(BadChoices, {"state": -1}, Choices, moves, None)
            else:
                self.refuses(BadChoices, {"state": 0}, Choices, moves, h)

    def test_bad_options(self):
        good = MOVES[0]
        four = tuple((name, 0, (1, 0)) for name in "abcd")
        for options in odd_objects() + [
            four, [STAY], (STAY, STAY), (STAY, ("stay", 2, (0, 1))), (("a", 0, (1, 0)), STAY, STAY), STAY,
            (("a", 0, (1,)),), (("a", 0, (1, 0, 0)),), (("a", 0, (h, S(1, 3))),), (("a", 0, [1, 0]),),
            (("a", 0),), (("a", 0, (1, 0), 0),), (["a", 0, (1, 0)],), (("a", 0, (2, -1)),), (("a", 0, (True, 0)),),
            (("a", 0, (1, False)),), (("a", True, (1, 0)),), (("a", False, (1, 0)),), ((1, 0, (1, 0)),),
            (("", 0, (1, 0)),), (("A", 0, (1, 0)),), (("abcdefghi", 0, (1, 0)),), ((b"a", 0, (1, 0)),),
            (("a", "1", (1, 0)),), (STAY, ("a", 0, (h, LITTLE))),
        ]:
            self.refuses(BadChoices, {"state": 0}, Choices, (options, good), h)
            self.refuses(BadChoices, {"state": 1}, Choices, (good, options), h)
            self.refuses(BadChoices, {"state": 0}, Choices, (options, options), h)
            self.refuses(BadChoices, {"state": 1}, Choices, (good, options), 2)
        for thing in odd_objects():
            self.refuses(BadChoices, {"state": 1}, Choices, (good, (thing,)), h)
            self.refuses(BadChoices, {"state": 1}, Choices, (good, (STAY, thing)), h)
            if not (isinstance(thing, str) and thing == "a"):
                self.refuses(BadChoices, {"state": 1}, Choices, (good, ((thing, 0, (1, 0)),)), h)
            if not isinstance(thing, (int, S)) or isinstance(thing, bool):
                self.refuses(BadChoices, {"state": 1}, Choices, (good, (("a", thing, (1, 0)),)), h)
            self.refuses(BadChoices, {"state": 1}, Choices, (good, (("a", 0, thing),)), h)
            self.refuses(BadChoices, {"state": 0}, Choices, ((("a", 0, (thing, 1)),), good), h)

    def test_factor(self):
        for factor in (LITTLE, 1 - LITTLE, S(2, 3)):
            self.assertEqual(Choices(MOVES, factor).factor, factor)
        for factor in odd_objects() + [0, 1, 2, S(0), S(1), 1 + LITTLE, -LITTLE, -h, S(3, 2)]:
            if not (isinstance(factor, S) and factor == h):
                self.refuses(BadFactor, {"factor": factor}, Choices, MOVES, factor)

    def test_no_state(self):
        for thing in odd_objects() + [2, -1, S(0), S(1)]:
            self.refuses(NoState, {"state": thing}, TWO.names, thing)
            for name in ("go", "x", None):
                self.refuses(NoState, {"state": thing}, TWO.pay, thing, name)
                self.refuses(NoState, {"state": thing}, TWO.row, thing, name)

    def test_no_option(self):
        for thing in odd_objects() + ["b", "zz", "sta", "stay ", b"stay", ("stay",), "goo"]:
            self.refuses(NoOption, {"name": thing}, TWO.pay, 0, thing)
            self.refuses(NoOption, {"name": thing}, TWO.row, 0, thing)


class WorthsTest(Case):

    def test_worths(self):
        self.assertEqual(worths(TWO, ("stay", "b")), (2, 6))
        self.assertEqual(worths(TWO, ("go", "b")), (2, 6))
        self.assertEqual(worths(TWO, ("go", "zz")), (S(4, 3), S(14, 3)))
        self.assertEqual(worths(TWO, ("stay", "zz")), (2, 5))
        self.assertEqual(worths(one_state(("a", S(-1, 3), (1,))), ("a",)), (S(-2, 3),))

    def test_the_equations(self):
        for choices in drawn(171, 40):
            for way in all_ways(choices)[:20]:
                found = worths(choices, way)
                self.assertIs(type(found), tuple)
                self.assertEqual(len(found), choices.size)
                self.are_shares(found)
                for state, name in enumerate(way):
                    self.assertEqual(fraction(found[state]), value_of(choices, state, name, found))

    def test_bad_way(self):
        for way in odd_objects() + [("go",), ("go", "b", "b"), ["go", "b"], "gb", ()]:
            if not isinstance(way, tuple) or len(way) != 2:
                self.refuses(BadWay, {"state": -1}, worths, TWO, way)
                self.refuses(BadWay, {"state": -1}, way_chain, TWO, way, None)
        for thing in odd_objects() + ["b", "zz", "stay ", b"go", ("go",)]:
            self.refuses(BadWay, {"state": 0}, worths, TWO, (thing, "b"))
            self.refuses(BadWay, {"state": 0}, worths, TWO, (thing, thing))
            self.refuses(BadWay, {"state": 0}, way_chain, TWO, (thing, "b"), ("a", "b"))
        for thing in odd_objects() + ["go", "stay"]:
            self.refuses(BadWay, {"state": 1}, worths, TWO, ("go", thing))
            self.refuses(BadWay, {"state": 1}, way_chain, TWO, ("go", thing), ("a", "b"))


class BestTest(Case):

    def test_best(self):
        self.assertEqual(best_worths(TWO), (2, 6))
        self.assertEqual(best_way(TWO), ("go", "b"))
        self.assertEqual(best_worths(one_state(STAY[:2] + ((1,),))), (2,))
        self.are_shares(best_worths(TWO))

    def test_all_ways_tried_out(self):
        several = 0
        for choices in drawn(172, 40):
            ways = all_ways(choices)
            tried = [fractions(worths(choices, way)) for way in ways]
            best = [max(column) for column in zip(*tried)]
            found = best_worths(choices)
            self.are_shares(found)
            self.assertIs(type(found), tuple)
            self.assertEqual(fractions(found), best)
            right = [way for way, worth in zip(ways, tried) if worth == best]
            self.assertEqual(best_way(choices), min(right))
            several += len(right) > 1
        self.assertLess(several, 40)

    def test_several_best_ways(self):
        # All that comes is worth 0; so each option of pay 0 is as good as any other, wherever it leads.
        rows = ((1, 0, 0), (0, h, h), (S(1, 3), S(1, 3), S(1, 3)))
        for order in itertools.permutations("xyz"):
            moves = tuple(tuple((name, 0, row) for name, row in zip(order, rows)) for _ in range(3))
            choices = Choices(moves, S(9, 10))
            self.assertEqual(best_worths(choices), (0, 0, 0))
            self.assertEqual(best_way(choices), ("x", "x", "x"))
        draw = source(173)
        for _ in range(30):
            many = draw.randint(1, 3)
            choices = drawn_choices(draw, many, 2)
            # Each option once more under other names: one that is lower and one that is higher.
            moves = tuple(
                tuple((new, choices.pay(state, name), choices.row(state, name))
                      for name in choices.names(state)[:1] for new in draw.sample(["p", "q", "r"], 3))
                for state in range(many)
            )
            self.assertEqual(best_way(Choices(moves, choices.factor)), ("p",) * many)

    def test_options_that_are_a_little_worse(self):
        for little, way in ((LITTLE, "a"), (-LITTLE, "b"), (0, "a")):
            choices = one_state(("a", little, (1,)), ("b", 0, (1,)))
            self.assertEqual(best_way(choices), (way,))
            self.assertEqual(best_worths(choices), (2 * little if little == LITTLE else 0,))

    def test_is_best_worths(self):
        for choices in drawn(174, 25):
            best = best_worths(choices)
            self.judges(True, is_best_worths, choices, best)
            for state in range(choices.size):
                for more in (LITTLE, -LITTLE, 1, S(-1, 7)):
                    wrong = best[:state] + (best[state] + more,) + best[state + 1:]
                    self.judges(False, is_best_worths, choices, wrong)
            self.judges(False, is_best_worths, choices, best + (S(0),))
            self.judges(False, is_best_worths, choices, best[1:])
            self.judges(False, is_best_worths, choices, list(best))
            self.judges(False, is_best_worths, choices, tuple(worth + 1 for worth in best))
            for way in all_ways(choices)[:12]:
                told = worths(choices, way)
                self.judges(told == best, is_best_worths, choices, told)

    def test_is_best_worths_of_integers_and_other_objects(self):
        self.judges(True, is_best_worths, TWO, (2, 6))
        self.judges(True, is_best_worths, TWO, (S(2), 6))
        self.judges(False, is_best_worths, TWO, [2, 6])
        self.judges(False, is_best_worths, TWO, (6, 2))
        one = one_state(("a", h, (1,)))
        self.judges(True, is_best_worths, one, (1,))
        self.judges(False, is_best_worths, one, (True,))
        self.judges(False, is_best_worths, one_state(("a", 0, (1,))), (False,))
        for thing in odd_objects():
            self.judges(False, is_best_worths, TWO, thing)
            self.judges(False, is_best_worths, TWO, (2, thing))
            self.judges(False, is_best_worths, TWO, (thing, 6))
            self.judges(False, is_best_worths, TWO, (2, 6, thing))


class WayChainTest(Case):

    def test_way_chain(self):
        chain = way_chain(TWO, ("go", "zz"), ("a", "b"))
        self.assertIs(type(chain), Chain)
        self.assertEqual(chain, Chain(((0, 1), (1, 0)), ("a", "b")))
        for choices in drawn(175, 15):
            labels = ("a", "b", "c", "d", "e")[:choices.size]
            for way in all_ways(choices)[:9]:
                rows = tuple(choices.row(state, name) for state, name in enumerate(way))
                self.assertEqual(way_chain(choices, way, labels), Chain(rows, labels))

    def test_bad_labels(self):
        for labels in odd_objects() + [("a",), ("a", "b", "c"), ["a", "b"], ("a", ""), ("a", 1)]:
            self.refuses(BadChain, {"part": "labels"}, way_chain, TWO, ("go", "b"), labels)
            self.refuses(BadWay, {"state": 1}, way_chain, TWO, ("go", "go"), labels)


class CopyTest(Case):

    def test_nothing_changes_a_machine(self):
        before = [TWO.names(0), TWO.names(1), TWO.pay(1, "b"), TWO.row(0, "go")]
        best_worths(TWO), best_way(TWO), worths(TWO, ("go", "b"))
        for call, given in ((TWO.pay, (0, "x")), (TWO.row, (5, "go")), (worths, (TWO, ()))):
            with self.assertRaises(ValueError):
                call(*given)
        self.assertEqual([TWO.names(0), TWO.names(1), TWO.pay(1, "b"), TWO.row(0, "go")], before)


if __name__ == "__main__":
    unittest.main()
