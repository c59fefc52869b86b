"""[15.1] and [15.2]: one draw for all."""

import itertools
import unittest

from bothwalks.chains import Chain
from bothwalks.draws import Draw, free_draw, is_draw_of, same_draw
from bothwalks.errors import BadDraw, TooMany
from bothwalks.shares import pick
from bothwalks.ties import free_ties, is_ties, tied_after
from tests.helpers import Case, S, drawn_chain, drawn_spread, fraction, h, odd_objects, source, unlike_pairs
from tests.test_chains import COIN, SWAP, THREE, one_state, ring

LITTLE = S(1, 10 ** 12)


def maps(many, size):
    """So many unlike maps of a size, the last ones first."""
    return list(itertools.islice(itertools.product(*[range(size - 1, -1, -1)] * size), many))


def drawn_draw(draw, size, many):
    """A draw of at most so many parts, drawn from a source, in no order."""
    some = sorted({tuple(draw.randrange(size) for _ in range(size)) for _ in range(many)})
    draw.shuffle(some)
    return Draw(tuple(zip(drawn_spread(draw, len(some), 0), some)))


class DrawTest(Case):

    def test_draws(self):
        draw = Draw(((h, (1, 1)), (S(1, 4), (0, 1)), (S(1, 4), (1, 0))))
        self.assertEqual(vars(draw)["size"], 2)
        self.assertEqual(vars(draw)["parts"], ((S(1, 4), (0, 1)), (S(1, 4), (1, 0)), (h, (1, 1))))
        self.assertEqual(draw.rows(), ((S(1, 4), S(3, 4)), (S(1, 4), S(3, 4))))
        self.assertEqual(Draw(((1, (0,)),)).parts, ((1, (0,)),))
        self.are_shares([Draw(((1, (0,)),)).parts[0][0]])
        self.assertEqual(Draw(((1, (7, 6, 5, 4, 3, 2, 1, 0)),)).size, 8)

    def test_drawn_draws(self):
        source_of = source(151)
        for _ in range(60):
            size = source_of.randint(1, 8)
            draw = drawn_draw(source_of, size, source_of.randint(1, 12))
            self.assertEqual(draw.size, size)
            self.assertIs(type(draw.parts), tuple)
            self.assertEqual([leads for _, leads in draw.parts], sorted(leads for _, leads in draw.parts))
            self.are_shares([share for share, _ in draw.parts])
            rows = draw.rows()
            self.assertIs(type(rows), tuple)
            for s in range(size):
                self.assertIs(type(rows[s]), tuple)
                self.are_shares(rows[s])
                for t in range(size):
                    share = sum(fraction(share) for share, leads in draw.parts if leads[s] == t)
                    self.assertEqual(fraction(rows[s][t]), share)

    def test_parts_of_any_order_are_equal(self):
        parts = [(h, (0, 0)), (S(1, 3), (1, 0)), (S(1, 6), (0, 1))]
        for turned in itertools.permutations(parts):
            self.assertTrue(Draw(tuple(turned)) == Draw(tuple(parts)))
        for other in [Draw(((1, (0, 0)),)), Draw(((h, (0, 0)), (h, (1, 0)))), parts, tuple(parts), None] + odd_objects():
            self.assertFalse(Draw(tuple(parts)) == other)
            self.assertTrue(Draw(tuple(parts)) != other)

    def test_three_hundred_parts(self):
        parts = tuple((S(1, 300), leads) for leads in maps(300, 5))
        draw = Draw(parts)
        self.assertEqual(len(draw.parts), 300)
        self.assertEqual(draw.parts, tuple(sorted(parts, key=lambda part: part[1])))
        self.assertEqual([fraction(sum(row, S(0))) for row in draw.rows()], [1] * 5)
        many = tuple((S(1, 301), leads) for leads in maps(301, 5))
        self.refuses(BadDraw, {"index": -1}, Draw, many)
        self.refuses(BadDraw, {"index": -1}, Draw, (None,) * 301)
        self.refuses(BadDraw, {"index": 299}, Draw, parts[:299] + ((S(1, 300), parts[0][1]),))
        self.refuses(BadDraw, {"index": -1}, Draw, parts[:299])

    def test_no_tuple(self):
        for thing in odd_objects() + [(), [], [(1, (0,))], ((1, (0,)),) * 301]:
            if not isinstance(thing, tuple) or not 1 <= len(thing) <= 300:
                self.refuses(BadDraw, {"index": -1}, Draw, thing)
            else:
                self.refuses(BadDraw, {"index": 0}, Draw, thing)

    def test_the_first_wrong_part(self):
        right = [(S(1, 4), leads) for leads in ((0, 0), (0, 1), (1, 0), (1, 1))]
        wrong = [
            (S(1, 4), (0, 2)), (S(1, 4), (-1, 0)), (S(1, 4), [0, 0]), (0, (0, 0)),
            (-h, (0, 0)), (True, (0, 0)), (S(1, 4), (True, 0)), (S(1, 4), (0, False)), (S(1, 4),), [S(1, 4), (0, 0)],
            (S(1, 4), (0, 0), 0), ("1/4", (0, 0)), (S(1, 4), (0, S(1))), (S(1, 4), ()), ((0, 0), S(1, 4)), (None, (0, 0)),
        ] + odd_objects()
        of_other_length = [(S(1, 4), (0,)), (S(1, 4), (0, 0, 0))]
        for at in range(4):
            for thing in wrong + (of_other_length if at > 0 else []):
                parts = right[:at] + [thing] + right[at + 1:]
                self.refuses(BadDraw, {"index": at}, Draw, tuple(parts))
                self.refuses(BadDraw, {"index": at}, Draw, tuple(parts[:at + 1] + [None]))
        for thing in odd_objects():
            self.refuses(BadDraw, {"index": 1}, Draw, ((h, (0, 0)), (h, thing)))
            self.refuses(BadDraw, {"index": 0}, Draw, ((h, thing), (h, (0, 0))))
            self.refuses(BadDraw, {"index": 1}, Draw, ((h, (0, 0)), (h, (0, thing))))

    def test_the_first_map_decides_the_length(self):
        self.refuses(BadDraw, {"index": 1}, Draw, ((h, (0, 0)), (h, (0,))))
        self.refuses(BadDraw, {"index": 1}, Draw, ((h, (0,)), (h, (0, 0))))
        self.refuses(BadDraw, {"index": 0}, Draw, ((1, (0,) * 9),))
        self.refuses(BadDraw, {"index": 0}, Draw, ((1, ()),))
        self.refuses(BadDraw, {"index": 0}, Draw, ((1, (1,)),))
        self.refuses(BadDraw, {"index": 0}, Draw, ((1, (8,) + (0,) * 7),))

    def test_a_map_that_was_there(self):
        self.refuses(BadDraw, {"index": 1}, Draw, ((h, (0, 1)), (h, (0, 1))))
        self.refuses(BadDraw, {"index": 2}, Draw, ((h, (0, 1)), (S(1, 4), (1, 1)), (S(1, 4), (0, 1)), (h, (0, 1))))
        self.refuses(BadDraw, {"index": 2}, Draw, ((h, (0, 1)), (h, (1, 1)), (h, (1, 1)), (0, (2,))))

    def test_the_sum(self):
        for one, other in ((h, h - LITTLE), (h, h + LITTLE), (1, 1), (S(1, 3), S(1, 3)), (LITTLE, LITTLE)):
            self.refuses(BadDraw, {"index": -1}, Draw, ((one, (0, 0)), (other, (1, 1))))
        self.refuses(BadDraw, {"index": 1}, Draw, ((1, (0, 0)), (h, (2, 2))))
        self.refuses(BadDraw, {"index": 1}, Draw, ((1, (0, 0)), (0, (1, 1))))
        self.assertEqual(len(Draw(((1 - LITTLE, (0, 0)), (LITTLE, (1, 1)))).parts), 2)


class TiesTest(Case):

    def test_ties(self):
        self.assertEqual(Draw(((1, (0,)),)).ties(), {})
        self.assertEqual(same_draw(COIN).ties()[(0, 1)], {(0, 0): h, (1, 1): h})
        source_of = source(152)
        for _ in range(30):
            size = source_of.randint(1, 5)
            draw = drawn_draw(source_of, size, 8)
            chain = Chain(draw.rows(), ("a",) * size)
            ties = draw.ties()
            self.judges(True, is_ties, chain, ties)
            self.assertEqual(list(ties), unlike_pairs(chain))
            for (s, t), tie in ties.items():
                self.assertEqual(list(tie), sorted(tie))
                self.are_shares(tie.values())
                for i, j in itertools.product(range(size), repeat=2):
                    share = sum(fraction(part) for part, leads in draw.parts if (leads[s], leads[t]) == (i, j))
                    self.assertEqual(fraction(tie.get((i, j), 0)), share)
        free = free_draw(THREE)
        self.assertEqual(free.ties(), free_ties(THREE))
        self.assertEqual(tied_after(THREE, free.ties(), 0, 1, 1), {(1, 1): h, (2, 1): h})


class IsDrawOfTest(Case):

    def test_is_draw_of(self):
        for draw in (same_draw(COIN), free_draw(COIN), Draw(((h, (0, 1)), (h, (1, 0))))):
            self.judges(True, is_draw_of, COIN, draw)
            self.judges(True, is_draw_of, COIN.with_label(0, "z"), draw)
            self.judges(False, is_draw_of, SWAP, draw)
            self.judges(False, is_draw_of, THREE, draw)
            self.judges(False, is_draw_of, one_state(), draw)
        self.judges(False, is_draw_of, COIN, Draw(((h - LITTLE, (0, 0)), (h + LITTLE, (1, 1)))))
        self.judges(False, is_draw_of, COIN, Draw(((h, (0, 0)), (h, (1, 0)))))
        self.judges(False, is_draw_of, COIN, same_draw(COIN).parts)
        for thing in odd_objects():
            self.judges(False, is_draw_of, COIN, thing)


class SameDrawTest(Case):

    def test_same_draw(self):
        self.assertEqual(same_draw(one_state()).parts, ((1, (0,)),))
        self.assertEqual(same_draw(SWAP).parts, ((1, (1, 0)),))
        self.assertEqual(same_draw(THREE).parts, ((h, (1, 1, 2)), (h, (2, 1, 2))))
        self.assertEqual(same_draw(ring(8)).parts, ((1, (1, 2, 3, 4, 5, 6, 7, 0)),))
        chain = Chain(((S(1, 3), 0, S(2, 3)), (S(1, 4), h, S(1, 4)), (0, 0, 1)), ("a",) * 3)
        self.assertEqual(same_draw(chain).parts, (
            (S(1, 4), (0, 0, 2)), (S(1, 12), (0, 1, 2)), (S(5, 12), (2, 1, 2)), (S(1, 4), (2, 2, 2)),
        ))

    def test_by_pick(self):
        source_of = source(153)
        for _ in range(50):
            chain = drawn_chain(source_of, source_of.randint(1, 8), "ab", source_of.choice([0, 0.4, 0.8]))
            draw = same_draw(chain)
            self.assertIs(type(draw), Draw)
            self.judges(True, is_draw_of, chain, draw)
            cuts = sorted({fraction(sum(row[:at], S(0))) for row in draw_rows(chain) for at in range(chain.size)})
            lengths = {}
            for begin, end in zip(cuts, cuts[1:] + [1]):
                if begin < 1:
                    x = S(begin.numerator, begin.denominator)
                    leads = tuple(pick(chain.row(state), x) for state in range(chain.size))
                    lengths[leads] = lengths.get(leads, 0) + end - begin
            self.assertEqual({leads: fraction(share) for share, leads in draw.parts}, lengths)


def draw_rows(chain):
    return [chain.row(state) for state in range(chain.size)]


class FreeDrawTest(Case):

    def test_free_draw(self):
        self.assertEqual(free_draw(one_state()).parts, ((1, (0,)),))
        self.assertEqual(free_draw(SWAP).parts, ((1, (1, 0)),))
        self.assertEqual(free_draw(COIN).parts, tuple((S(1, 4), leads) for leads in ((0, 0), (0, 1), (1, 0), (1, 1))))
        self.assertEqual(free_draw(THREE).parts, ((h, (1, 1, 2)), (h, (2, 1, 2))))

    def test_each_state_by_itself(self):
        source_of = source(154)
        for _ in range(30):
            size = source_of.randint(1, 3)
            chain = drawn_chain(source_of, size, "ab", source_of.choice([0, 0.4]))
            draw = free_draw(chain)
            self.judges(True, is_draw_of, chain, draw)
            found = {leads: fraction(share) for share, leads in draw.parts}
            for leads in itertools.product(range(size), repeat=size):
                share = 1
                for state, to in enumerate(leads):
                    share = share * fraction(chain.row(state)[to])
                self.assertEqual(found.get(leads, 0), share)
            self.assertTrue(all(found.values()))

    def test_too_many(self):
        self.assertEqual(len(free_draw(ring(3)).parts), 1)
        for many in (4, 5, 8):
            self.refuses(TooMany, {"limit": 3}, free_draw, ring(many))


if __name__ == "__main__":
    unittest.main()
