"""[6.1] to [6.3]: seen labels."""

import itertools
import unittest
from fractions import Fraction

from bothwalks.chains import Chain
from bothwalks.errors import BadSeen, BadSteps, NoState
from bothwalks.lumps import lumps
from bothwalks.seen import gap_rows, greatest_gap, likeliest, seen_at, seen_share, unlike_seen
from tests.helpers import Case, S, drawn_chain, fraction, fractions, h, odd_objects, source
from tests.test_chains import COIN, SWAP, THREE, one_state, ring


def walks(chain, state, seen):
    """All rows of states from the state on with the seen labels, with their shares above 0."""
    for more in itertools.product(range(chain.size), repeat=len(seen) - 1):
        states = (state,) + more
        share = Fraction(1)
        for one, other in zip(states, more):
            share *= fraction(chain.row(one)[other])
        if share and all(item is None or chain.label(at) == item for at, item in zip(states, seen)):
            yield states, share


def label_shares(chain, state, many):
    """The dict from tuples of so many names to their shares, for walks from the state."""
    found = {}
    for states, share in walks(chain, state, (None,) * many):
        names = tuple(chain.label(at) for at in states)
        found[names] = found.get(names, 0) + share
    return found


def drawn_chains(seed, many, most=4, names="ab"):
    draw = source(seed)
    return [drawn_chain(draw, draw.randint(1, most), names) for _ in range(many)]


class SeenTest(Case):

    def test_seen_share(self):
        for chain, state, seen, share in (
            (THREE, 0, ("a",), 1), (THREE, 0, ("b",), 0), (THREE, 0, (None,), 1), (THREE, 0, ("a", "b"), h),
            (THREE, 0, ("a", "a", "a"), h), (THREE, 0, ("a", None, "b"), h), (THREE, 0, ("b", "b"), 0),
            (THREE, 0, ("a", "zz"), 0), (COIN, 0, ("a", "b", "a", "b"), S(1, 8)), (COIN, 0, (None,) * 20, 1),
            (COIN, 1, ("b",) + ("a",) * 19, S(1, 2 ** 19)), (one_state(), 0, ("a",) * 20, 1),
        ):
            self.is_share(seen_share(chain, state, seen))
            self.assertEqual(seen_share(chain, state, seen), share)

    def test_seen_at(self):
        for chain, state, seen, spread in (
            (THREE, 0, ("a",), (1, 0, 0)), (THREE, 0, ("a", "a"), (0, 1, 0)), (THREE, 0, ("a", None), (0, h, h)),
            (THREE, 0, ("b",), None), (THREE, 1, ("a", "b"), None), (COIN, 0, (None,) * 20, (h, h)),
            (SWAP, 0, ("a",) * 20, (0, 1)), (THREE, 0, ("a", "c"), None), (one_state(), 0, (None,), (1,)),
        ):
            answer = seen_at(chain, state, seen)
            self.assertEqual(answer, spread)
            if spread is not None:
                self.assertIs(type(answer), tuple)
                self.are_shares(answer)

    def test_likeliest(self):
        for chain, state, seen, right in (
            (THREE, 0, ("a",), (1, (0,))), (THREE, 0, (None,), (1, (0,))), (THREE, 0, ("b",), None),
            (THREE, 0, (None, None, None), (h, (0, 1, 1))), (THREE, 0, ("a", None, "b"), (h, (0, 2, 2))),
            (THREE, 1, ("a", "b"), None), (COIN, 1, ("b", None, None), (S(1, 4), (1, 0, 0))),
            (ring(8), 6, (None,) * 4, (1, (6, 7, 0, 1))), (one_state(), 0, ("a",) * 20, (1, (0,) * 20)),
        ):
            answer = likeliest(chain, state, seen)
            self.assertEqual(answer, right)
            if right is not None:
                self.assertIs(type(answer), tuple)
                self.assertIs(type(answer[1]), tuple)
                self.is_share(answer[0])

    def test_the_likeliest_row_need_not_take_the_likeliest_step(self):
        rows = ((0, S(3, 5), S(2, 5), 0, 0), (0, 0, 0, h, h), (0, 0, 0, 0, 1), (0, 0, 0, 1, 0), (0, 0, 0, 0, 1))
        chain = Chain(rows, ("a",) * 5)
        self.assertEqual(likeliest(chain, 0, (None,) * 2), (S(3, 5), (0, 1)))
        self.assertEqual(likeliest(chain, 0, (None,) * 3), (S(2, 5), (0, 2, 4)))

    def test_drawn_chains(self):
        draw = source(51)
        nones = 0
        for chain in drawn_chains(52, 60):
            for state in range(chain.size):
                seen = tuple(draw.choice(["a", "b", None]) for _ in range(draw.randint(1, 4)))
                found = list(walks(chain, state, seen))
                whole = sum(share for states, share in found)
                self.assertEqual(fraction(seen_share(chain, state, seen)), whole)
                if not found:
                    nones += 1
                    self.assertIs(seen_at(chain, state, seen), None)
                    self.assertIs(likeliest(chain, state, seen), None)
                    continue
                spread = [
                    sum(share for states, share in found if states[-1] == at) / whole for at in range(chain.size)
                ]
                self.assertEqual(fractions(seen_at(chain, state, seen)), spread)
                best = max(share for states, share in found)
                least = min(states for states, share in found if share == best)
                self.assertEqual(likeliest(chain, state, seen), (S(best.numerator, best.denominator), least))
        self.assertGreater(nones, 10)

    def test_bad_seen(self):
        for call in (seen_share, seen_at, likeliest):
            for thing in odd_objects() + [(), ["a"], "a", ("a",) * 21, (None,) * 21, (1,) * 21, {"a": 1}]:
                index = 0 if isinstance(thing, tuple) and 1 <= len(thing) <= 20 else -1
                if isinstance(thing, tuple) and thing and thing[0] in ("a", None) and index == 0:
                    index = 1 if len(thing) > 1 else None
                if index is not None:
                    self.refuses(BadSeen, {"index": index}, call, THREE, 0, thing)
            for seen, index in (
                (("a", "A"), 1), (("abcdefghi",), 0), (("a", None, ""), 2), ((None, 1, 2), 1), (("a",) * 19 + (True,), 19),
                (("a b",), 0), (("a", ("a",)), 1), (("a", b"a"), 1),
            ):
                self.refuses(BadSeen, {"index": index}, call, THREE, 0, seen)
            for thing in odd_objects():
                if thing is not None and thing != "a":
                    self.refuses(BadSeen, {"index": 2}, call, THREE, 0, ("a", None, thing))
            call(THREE, 0, ("a",) * 20)

    def test_no_state_comes_first(self):
        for call in (seen_share, seen_at, likeliest):
            for thing in odd_objects() + [3, -1, S(0)]:
                self.refuses(NoState, {"state": thing}, call, THREE, thing, ("a",))
                self.refuses(NoState, {"state": thing}, call, THREE, thing, None)


class UnlikeTest(Case):

    def right(self, chain, s, t):
        """The first tuple of names by trying all of them."""
        for many in range(1, chain.size + 2):
            one, other = label_shares(chain, s, many), label_shares(chain, t, many)
            for names in sorted(set(one) | set(other)):
                if one.get(names, 0) != other.get(names, 0):
                    return names, one.get(names, 0), other.get(names, 0)
        return None

    def test_unlike_seen(self):
        for chain, s, t, right in (
            (THREE, 0, 1, (("a", "a"), h, 1)), (THREE, 1, 0, (("a", "a"), 1, h)), (THREE, 0, 2, (("a",), 1, 0)),
            (THREE, 2, 1, (("a",), 0, 1)), (SWAP, 0, 1, None), (SWAP, 1, 1, None), (COIN, 0, 1, (("a",), 1, 0)),
            (one_state(), 0, 0, None), (ring(8), 7, 3, (("d",), 0, 1)),
        ):
            answer = unlike_seen(chain, s, t)
            self.assertEqual(answer, right)
            if right is not None:
                self.assertIs(type(answer), tuple)
                self.assertIs(type(answer[0]), tuple)
                self.are_shares(answer[1:])

    def test_the_difference_may_come_late(self):
        rows = tuple(tuple(int(to == min(state + 1, 7)) for to in range(8)) for state in range(8))
        chain = Chain(rows, ("a",) * 7 + ("b",))
        self.assertEqual(unlike_seen(chain, 0, 1), (("a",) * 7, 1, 0))
        self.assertEqual(unlike_seen(chain, 5, 6), (("a", "a"), 1, 0))
        self.assertIs(unlike_seen(Chain(rows, ("a",) * 8), 0, 1), None)

    def test_shares_may_be_equal_for_a_while_in_unlike_lumps(self):
        # 0 and 1 show the same labels by the same shares, though they are not of one lump.
        rows = (
            (0, 0, h, h, 0, 0, 0), (0, 0, 0, 0, 1, 0, 0), (0, 0, 0, 0, 0, 1, 0), (0, 0, 0, 0, 0, 0, 1),
            (0, 0, 0, 0, 0, h, h), (0, 0, 0, 0, 0, 1, 0), (0, 0, 0, 0, 0, 0, 1),
        )
        chain = Chain(rows, ("a", "a", "b", "b", "b", "c", "d"))
        self.assertNotIn((0, 1), lumps(chain))
        self.assertIs(unlike_seen(chain, 0, 1), None)
        self.assertEqual(unlike_seen(chain.with_label(6, "c"), 0, 1), None)
        self.assertEqual(unlike_seen(chain.with_row(4, (0, 0, 0, 0, 0, S(1, 3), S(2, 3))), 0, 1),
                         (("a", "b", "c"), h, S(1, 3)))

    def test_differences_are_followed_and_not_sums(self):
        rows = ((1, 0, 0, 0, 0), (0, 0, h, 0, h), (h, h, 0, 0, 0), (1, 0, 0, 0, 0), (h, 0, 0, h, 0))
        chain = Chain(rows, ("b", "a", "b", "a", "b"))
        self.assertEqual(unlike_seen(chain, 2, 4), (("b", "a", "b", "a"), S(1, 4), 0))

    def test_drawn_chains(self):
        found = []
        for chain in drawn_chains(53, 60, 4) + drawn_chains(54, 40, 4, "aaab"):
            for s in range(chain.size):
                for t in range(chain.size):
                    right = self.right(chain, s, t)
                    answer = unlike_seen(chain, s, t)
                    if right is None:
                        self.assertIs(answer, None)
                    else:
                        found.append(len(right[0]))
                        self.assertEqual((answer[0], fraction(answer[1]), fraction(answer[2])), right)
                        self.assertEqual(answer[1], seen_share(chain, s, answer[0]))
                        self.assertLessEqual(len(answer[0]), chain.size)
        self.assertGreater(len([many for many in found if many > 2]), 10)

    def test_no_state(self):
        for call in (unlike_seen, lambda *given: greatest_gap(*given, 0), lambda *given: gap_rows(*given, None)):
            for thing in odd_objects() + [3, -1, S(0)]:
                self.refuses(NoState, {"state": thing}, call, THREE, thing, 0)
                self.refuses(NoState, {"state": thing}, call, THREE, 0, thing)
                self.refuses(NoState, {"state": thing}, call, THREE, thing, 9)


class GapsTest(Case):

    def test_gaps(self):
        self.assertEqual(gap_rows(THREE, 0, 1, 1), [("a", "b")])
        self.assertEqual(greatest_gap(THREE, 0, 1, 1), h)
        self.assertEqual(gap_rows(THREE, 1, 0, 1), [("a", "a")])
        self.assertEqual(gap_rows(THREE, 0, 1, 0), [])
        self.assertEqual(greatest_gap(THREE, 0, 1, 0), 0)
        self.assertEqual(gap_rows(THREE, 0, 2, 0), [("a",)])
        self.assertEqual(greatest_gap(THREE, 0, 2, 0), 1)
        self.assertEqual(gap_rows(COIN, 1, 0, 1), [("b", "a"), ("b", "b")])
        self.assertEqual(gap_rows(SWAP, 0, 1, 3), [])
        for answer in (greatest_gap(SWAP, 0, 1, 3), greatest_gap(SWAP, 0, 0, 0), greatest_gap(THREE, 0, 1, 3)):
            self.is_share(answer)

    def test_drawn_chains(self):
        above = 0
        for chain in drawn_chains(55, 40, 4, "abc"):
            for s in range(chain.size):
                for t in range(chain.size):
                    for n in range(4):
                        one, other = label_shares(chain, s, n + 1), label_shares(chain, t, n + 1)
                        rows = sorted(names for names in one if one[names] > other.get(names, 0))
                        gap = sum(one[names] - other.get(names, 0) for names in rows)
                        self.assertEqual(gap_rows(chain, s, t, n), rows)
                        self.assertEqual(fraction(greatest_gap(chain, s, t, n)), gap)
                        above += 0 < gap < 1
        self.assertGreater(above, 30)

    def test_eight_states(self):
        chain = drawn_chain(source(56), 8, "abcdefgh", 0).with_label(1, "a").with_label(0, "a")
        rows = gap_rows(chain, 0, 1, 3)
        self.assertEqual(rows, sorted(rows))
        gain = [seen_share(chain, 0, row) - seen_share(chain, 1, row) for row in rows]
        self.assertTrue(all(fraction(share) > 0 for share in gain))
        self.assertEqual(sum(gain, S(0)), greatest_gap(chain, 0, 1, 3))
        self.assertEqual(greatest_gap(chain, 0, 1, 3), greatest_gap(chain, 1, 0, 3))

    def test_bad_steps(self):
        for call in (greatest_gap, gap_rows):
            for thing in odd_objects() + [4, -1, S(1), "1", (1,)]:
                self.refuses(BadSteps, {"steps": thing}, call, THREE, 0, 1, thing)


if __name__ == "__main__":
    unittest.main()
