"""[20.1] and [20.2]: texts of chains and of ties."""

import unittest

from bothwalks.chains import Chain
from bothwalks.errors import BadText, BadTies
from bothwalks.texts import read, read_ties, written, written_ties
from bothwalks.ties import close_ties, free_ties
from tests.helpers import Case, S, drawn_chain, h, odd_objects, source
from tests.test_chains import COIN, SWAP, THREE, one_state, ring

FULL = 10 ** 99  # the least number of 100 digits
FREE = "0 1: 0 0 1/4, 0 1 1/4, 1 0 1/4, 1 1 1/4\n1 0: 0 0 1/4, 0 1 1/4, 1 0 1/4, 1 1 1/4\n"


def coin_of(share):
    return Chain(((share, 1 - share), (h, h)), ("a", "b"))


class TextCase(Case):

    def refused(self, line, text, *chain):
        call = (read_ties if chain else read)
        self.refuses(BadText, {"line": line}, call, *chain, text)


class WrittenTest(TextCase):

    def test_written(self):
        self.assertEqual(written(COIN), "a: 1/2 1/2\nb: 1/2 1/2\n")
        self.assertEqual(written(THREE), "a: 0 1/2 1/2\na: 0 1 0\nb: 0 0 1\n")
        self.assertEqual(written(one_state("abcdefgh")), "abcdefgh: 1\n")
        self.assertEqual(written(ring(8)).split("\n")[7:], ["h: 1 0 0 0 0 0 0 0", ""])
        self.assertEqual(written(coin_of(S(2, 6))).split("\n")[0], "a: 1/3 2/3")

    def test_long_shares_are_written(self):
        share = S(1, 10 ** 3999 + 7)
        text = written(coin_of(share))
        self.assertEqual(text, f"a: {share} {1 - share}\nb: 1/2 1/2\n")
        self.assertEqual(len(str(share)), 4002)
        self.refused(1, text)

    def test_it_is_read_again(self):
        draw = source(211)
        for many in list(range(1, 9)) * 3:
            chain = drawn_chain(draw, many, ("a", "zz", "abcdefgh"))
            found = read(written(chain))
            self.assertIs(type(found), Chain)
            self.assertEqual(found, chain)
            self.are_shares(found.row(0))
            self.assertEqual(written(found), written(chain))


class ReadTest(TextCase):

    def test_no_string(self):
        for thing in odd_objects() + [b"a: 1\n", ["a: 1\n"], ("a: 1",)]:
            if not isinstance(thing, str):
                self.refused(0, thing)

    def test_rows_that_are_not_closed(self):
        for text, line in (
            ("", 1), ("a", 1), ("a: 1", 1), ("a: 1\nb", 2), ("a: 1/2 1/2\nb: 1/2 1/2", 2), ("?\n??\n ", 3),
            ("a: 1\n ", 2), ("\n\n\nx", 4), ("a: 1\n\r", 2),
        ):
            self.refused(line, text)

    def test_numbers_of_rows(self):
        self.assertEqual(read("a: 1\n"), one_state())
        row = "a:" + " 0" * 7 + " 1\n"
        self.assertEqual(read(row * 8).size, 8)
        self.refused(1, row * 9)
        self.refused(1, row * 7)
        self.refused(1, ("a:" + " 0" * 8 + " 1\n") * 9)
        self.refused(1, "\n")
        self.refused(2, "a: 1\n\n")
        self.refused(1, "\na: 1\n")

    def test_the_first_row_of_another_length(self):
        # Rows that are wrong by themselves come ahead of rows of another length.
        self.refused(1, "a: 1\nb: 1\n")
        self.refused(2, "a: 1 0\nb: 1\n")
        self.refused(2, "a: 1 0\nb: 1 0 0\n")
        self.refused(3, "a: 1 0 0\nb: 1 0 0\nc: 0 1\n")
        self.refused(2, "a: 1\nb: x\n")
        self.refused(3, "a: 1\nb: 1\nc: 1/1\n")
        self.refused(1, "a: x\nb: 1\n")

    def test_labels(self):
        for label in ("a", "abcdefgh", "z"):
            self.assertEqual(read(f"{label}: 1\n").label(0), label)
        for head in (
            "", ":", "a", "a :", " a:", "A:", "abcdefghi:", "a1:", "a::", "a_:", "\xe4:", "aB:", "a:b:", "\ta:", "a\t:",
            "a;", "1:",
        ):
            self.refused(1, f"{head} 1\n")
            self.refused(2, f"a: 1 0\n{head} 0 1\n")

    def test_blanks(self):
        for row in (
            "a:1", "a:  1", "a: 1 ", "a:", "a: ", "a:\t1", "a: 1\r", " a: 1", "a: 1\x0b", "a: 1\x0c", "a: 1\x1c",
            "a:\xa01", "a: 1\x00", "a: 1\x85", "a: 1\u2028", "a: 0  1", "a: 1/2  1/2", "a: 1/ 2", "a: 1 /2",
        ):
            self.refused(1, f"{row}\n")
            self.refused(2, f"a: 1\n{row}\n")
        self.refused(1, "a: 1 0 \nb: 0 1\n")
        self.refused(2, "a: 1 0\nb: 0  1\n")
        self.refused(1, "a: 1 0\r\nb: 0 1\r\n")

    def test_shares(self):
        for shares in (
            "1/1", "2/2", "01", "1/01", "+1", "-1", "1.0", "1e0", "1/", "/1", "1/-1", "1/0", "0/1", "1_0", "one", "",
            "\u0661", "\xb9", "1/1/1", "--1", "0x1", "2", "1/2", "3/2", "0",
        ):
            self.refused(1, f"a: {shares}\n")
        for shares in (
            "2/4 1/2", "1/2 2/4", "0/5 1", "1 0/1", "00 1", "1 00", "1 -0", "+0 1", "-1 2", "2 -1", "1/2 1/3", "1 1",
            "1/2 +1/2", "01/2 1/2", "1/02 1/2", "1/2 1/2 ", "3/6 3/6", "1/0 1", "1/00 1", "1/2 0.5", "1/2,1/2", "0 0",
            "-1/2 3/2", "1/-2 1/2", "1/2 1\u0662", "1/2 \xbd", "1 0/0", "1/2 1/2 0/1",
        ):
            self.refused(1, f"a: {shares}\nb: 1 0\n")
            self.refused(2, f"b: 1 0\na: {shares}\n")
        self.assertEqual(read("a: 1/2 1/2\nb: 1 0\n").row(0), (h, h))

    def test_digits(self):
        for bottom in (FULL, 10 * FULL - 1, FULL // 10, 7 * FULL + 1):
            chain = coin_of(S(1, bottom))
            self.assertLessEqual(len(str(bottom)), 100)
            self.assertEqual(read(written(chain)), chain)
        for bottom in (10 * FULL, 10 * FULL + 1):
            self.assertEqual(len(str(bottom)), 101)
            self.refused(1, written(coin_of(S(1, bottom))))
        self.refused(1, f"a: {'0' * 101} 1\nb: 1 0\n")
        self.refused(1, f"a: {'9' * 101}/{'9' * 101} 0\nb: 1 0\n")
        self.refused(1, f"a: 1/{'9' * 5000} 0\nb: 1 0\n")
        # 100 digits above and 100 below, one beside the other.
        self.assertEqual(read(written(coin_of(S(FULL, FULL + 1)))), coin_of(S(FULL, FULL + 1)))

    def test_many_rows_and_shares(self):
        self.refused(1, "a: 1\n" * 5000)
        self.refused(1, "a:" + " 0" * 5000 + " 1\n")
        self.refused(5001, "a: 1\n" * 5000 + "?\n")

    def test_one_thing_changed(self):
        draw = source(212)
        refused = 0
        for _ in range(600):
            chain = drawn_chain(draw, draw.randint(1, 4), ("a", "bc"))
            text = written(chain)
            at = draw.randrange(len(text) + 1)
            wrong = text[:at] + draw.choice(["", "0", "1", " ", "/", "\n", "a", ":", "-", "2"]) + text[at + 1:]
            try:
                found = read(wrong)
            except BadText as e:
                refused += 1
                self.assertTrue(1 <= e.line <= wrong.count("\n") + 1)
            else:
                self.assertEqual(written(found), wrong)
        self.assertGreater(refused, 300)


class WrittenTiesTest(TextCase):

    def test_written_ties(self):
        self.assertEqual(written_ties(COIN, free_ties(COIN)), FREE)
        self.assertEqual(written_ties(COIN, close_ties(COIN)), "0 1: 0 0 1/2, 1 1 1/2\n1 0: 0 0 1/2, 1 1 1/2\n")
        self.assertEqual(written_ties(SWAP, free_ties(SWAP)), "0 1: 1 0 1\n1 0: 0 1 1\n")
        self.assertEqual(written_ties(SWAP, {(1, 0): {(0, 1): 1}, (0, 1): {(1, 0): S(1)}}), "0 1: 1 0 1\n1 0: 0 1 1\n")
        self.assertEqual(written_ties(one_state(), {}), "")
        turned = {pair: dict(reversed(list(tie.items()))) for pair, tie in reversed(list(free_ties(COIN).items()))}
        self.assertEqual(written_ties(COIN, turned), FREE)

    def test_bad_ties(self):
        right = free_ties(COIN)
        for thing in odd_objects() + [
            {(0, 1): right[(0, 1)]}, {**right, (0, 0): {(0, 0): 1}}, {**right, (0, 1): {(0, 0): 1}},
            {(0, True): right[(0, 1)], (1, 0): right[(1, 0)]}, free_ties(THREE), FREE,
        ]:
            self.refuses(BadTies, {}, written_ties, COIN, thing)
            if not (isinstance(thing, dict) and thing == {}):
                self.refuses(BadTies, {}, written_ties, one_state(), thing)

    def test_they_are_read_again(self):
        draw = source(213)
        for many in (1, 2, 3, 4, 5, 8):
            chain = drawn_chain(draw, many)
            for ties in (free_ties(chain), close_ties(chain)):
                text = written_ties(chain, ties)
                self.assertEqual(text.count("\n"), many * (many - 1))
                found = read_ties(chain, text)
                self.assertEqual(found, ties)
                self.assertEqual(list(found), sorted(ties))
                for tie in found.values():
                    self.assertEqual(list(tie), sorted(tie))
                    self.are_shares(tie.values())

    def test_long_ties_are_written(self):
        chain = coin_of(S(1, 10 ** 1999 + 7))
        text = written_ties(chain, free_ties(chain))
        self.assertIn(str(free_ties(chain)[(0, 1)][(0, 0)]), text)
        self.refused(1, text, chain)


class ReadTiesTest(TextCase):

    def test_no_string(self):
        for thing in odd_objects() + [FREE.encode(), [FREE]]:
            if not isinstance(thing, str):
                self.refused(0, thing, COIN)
                self.refused(0, thing, one_state())

    def test_a_chain_of_one_state(self):
        self.assertEqual(read_ties(one_state(), ""), {})
        for text in ("\n", "0 0: 0 0 1\n", "x\n", "\n\n"):
            self.refused(1, text, one_state())
        self.refused(1, " ", one_state())
        self.refused(2, "\n ", one_state())

    def test_rows_that_are_not_closed(self):
        first, second = FREE.split("\n")[:2]
        for text, line in ((FREE[:-1], 2), (first, 1), ("x\ny", 2), (FREE + " ", 3), (FREE + "x", 3), ("x\n\n\nx", 4)):
            self.refused(line, text, COIN)
        self.assertEqual(read_ties(COIN, f"{first}\n{second}\n"), free_ties(COIN))

    def test_rows_too_many_and_too_few(self):
        first, second = FREE.split("\n")[:2]
        for rows, line in (
            ([], 1), ([first], 2), ([first, second, first], 3), ([first, second, ""], 3), ([second, first], 1),
            ([first, first], 2), ([first, "x"], 2), (["x", second], 1), (["x"], 1), ([second], 1), (["", first], 1),
            ([first, second, "x", "y"], 3), ([first, "", second], 2),
        ):
            self.refused(line, "".join(row + "\n" for row in rows), COIN)

    def test_how_a_row_is_written(self):
        second = FREE.split("\n")[1]
        for row in (
            "0 1:0 0 1/2, 1 1 1/2", "0 1:  0 0 1/2, 1 1 1/2", "0 1: 0 0 1/2,1 1 1/2", "0 1: 0 0 1/2,  1 1 1/2",
            "0 1: 0 0 1/2 , 1 1 1/2", "0 1: 0 0 1/2, 1 1 1/2 ", "0 1: 0 0 1/2, 1 1 1/2,", "0 1: 0 0 1/2, 1 1 1/2, ",
            " 0 1: 0 0 1/2, 1 1 1/2", "0  1: 0 0 1/2, 1 1 1/2", "0 1 : 0 0 1/2, 1 1 1/2", "00 1: 0 0 1/2, 1 1 1/2",
            "0 01: 0 0 1/2, 1 1 1/2", "+0 1: 0 0 1/2, 1 1 1/2", "-0 1: 0 0 1/2, 1 1 1/2", "0 1 0 0 1/2, 1 1 1/2",
            "0 1: 00 0 1/2, 1 1 1/2", "0 1: 0 00 1/2, 1 1 1/2", "0 1: 0 0 1/2, 01 1 1/2", "0 1: 0 0 1/2, 1 +1 1/2",
            "0 1: -0 0 1/2, 1 1 1/2", "0 1: 0 0 2/4, 1 1 1/2", "0 1: 0 0 01/2, 1 1 1/2", "0 1: 0 0 1/2, 1 1 1/02",
            "0 1: 0 0 +1/2, 1 1 1/2", "0 1: 1 1 1/2, 0 0 1/2", "0 1: 0 0 1/4, 0 0 1/4, 1 1 1/2", "0 1: 0 0 1/2 1 1 1/2",
            "0 1: 0 0 1/2, 0 1 0, 1 1 1/2", "0 1: 0 0 1/2; 1 1 1/2", "0 1: (0, 0) 1/2, 1 1 1/2", "0 1:", "0 1: ", "",
            "0 1: 0 0, 1 1 1/2", "0 1: 0 0 1/2 0, 1 1 1/2", "0 1: 0 0  1/2, 1 1 1/2", "0 1: 0  0 1/2, 1 1 1/2",
            "1 0: 0 0 1/2, 1 1 1/2", "0 2: 0 0 1/2, 1 1 1/2", "0 0: 0 0 1/2, 1 1 1/2", "0 1: 0 0 1/2, 1 1 1/2\r",
            "0 1: 0 0 1/0, 1 1 1/2", "0 1: 0 0 1/2, 1 \u0661 1/2", "0 1: 0 0 1/2, 1 \xb9 1/2", "0 1: 0 0 0.5, 1 1 1/2",
            "a: 1/2 1/2", "0 1: a b 1/2, 1 1 1/2", "\u0660 1: 0 0 1/2, 1 1 1/2", "0 1:\t0 0 1/2, 1 1 1/2",
        ):
            self.refused(1, f"{row}\n{second}\n", COIN)
        self.assertEqual(read_ties(COIN, f"0 1: 0 0 1/2, 1 1 1/2\n{second}\n")[(0, 1)], {(0, 0): h, (1, 1): h})

    def test_rows_that_are_no_ties(self):
        second = FREE.split("\n")[1]
        for row in (
            "0 1: 0 0 1", "0 1: 0 0 1/2", "0 1: 0 0 1/2, 0 1 1/2", "0 1: 0 0 1/2, 1 1 1/3", "0 1: 0 0 1/2, 1 1 1/2, 1 2 1",
            "0 1: 0 0 1/2, 1 2 1/2", "0 1: 0 0 1/3, 1 1 2/3", "0 1: 0 0 1/4, 0 1 1/4, 1 1 1/2", "0 1: 0 0 1/2, 1 1 1",
            f"0 1: 0 0 1/2, 1 {'1' * 101} 1/2", f"0 1: 0 0 1/2, {'1' * 5000} 1 1/2", f"0 1: 0 {'9' * 100} 1/2, 1 1 1/2",
        ):
            self.refused(1, f"{row}\n{second}\n", COIN)
            self.refused(2, f"0 1: 0 0 1/2, 1 1 1/2\n{'1 0' + row[3:]}\n", COIN)

    def test_digits(self):
        chain = Chain(((S(1, FULL), 1 - S(1, FULL)), (1, 0)), ("a", "b"))
        self.assertEqual(read_ties(chain, written_ties(chain, free_ties(chain))), free_ties(chain))
        chain = Chain(((S(1, 10 * FULL), 1 - S(1, 10 * FULL)), (1, 0)), ("a", "b"))
        self.refused(1, written_ties(chain, free_ties(chain)), chain)

    def test_one_thing_changed(self):
        draw = source(214)
        refused = 0
        for _ in range(400):
            chain = drawn_chain(draw, draw.randint(2, 3))
            text = written_ties(chain, close_ties(chain))
            at = draw.randrange(len(text) + 1)
            wrong = text[:at] + draw.choice(["", "0", "1", " ", "/", "\n", ",", ":", "-", "2"]) + text[at + 1:]
            try:
                found = read_ties(chain, wrong)
            except BadText as e:
                refused += 1
                self.assertTrue(1 <= e.line <= wrong.count("\n") + 1)
            else:
                self.assertEqual(written_ties(chain, found), wrong)
        self.assertGreater(refused, 200)


if __name__ == "__main__":
    unittest.main()
