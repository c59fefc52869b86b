"""[1.1] and [1.2]: shares and spreads."""

import unittest
from fractions import Fraction

from bothwalks.errors import BadFactor, BadShare, BadSpread
from bothwalks.shares import Share, is_spread, pick
from tests.helpers import Case, S, drawn_spread, fraction, h, odd_objects, source


class ShareTest(Case):

    def parts(self, share):
        self.is_share(share)
        self.assertIs(type(share.top), int)
        self.assertIs(type(share.bottom), int)
        return share.top, share.bottom

    def test_lowest_terms_with_a_bottom_above_0(self):
        for top, bottom, parts in (
            (6, 8, (3, 4)), (6, -8, (-3, 4)), (-6, -8, (3, 4)), (-6, 8, (-3, 4)), (0, 5, (0, 1)), (0, -5, (0, 1)),
            (7, 7, (1, 1)), (-7, 7, (-1, 1)), (4, 2, (2, 1)), (10 ** 12 - 1, 999, (1001001001, 1)),
        ):
            self.assertEqual(self.parts(S(top, bottom)), parts)

    def test_the_bottom_is_1_if_none_is_passed(self):
        self.assertEqual(self.parts(S(5)), (5, 1))
        self.assertEqual(self.parts(S(-5)), (-5, 1))
        self.assertEqual(self.parts(S(0)), (0, 1))

    def test_bad_share_keeps_what_was_passed(self):
        self.refuses(BadShare, {"top": 3, "bottom": 0}, S, 3, 0)
        self.refuses(BadShare, {"top": 0, "bottom": 0}, S, 0, 0)
        self.refuses(BadShare, {"top": True, "bottom": 1}, S, True)
        self.refuses(BadShare, {"top": 1, "bottom": True}, S, 1, True)
        self.refuses(BadShare, {"top": False, "bottom": 2}, S, False, 2)
        self.refuses(BadShare, {"top": 6, "bottom": False}, S, 6, False)
        for thing in odd_objects():
            if type(thing) is int:
                continue
            self.refuses(BadShare, {"top": thing, "bottom": 1}, S, thing)
            self.refuses(BadShare, {"top": 6, "bottom": thing}, S, 6, thing)
            self.refuses(BadShare, {"top": thing, "bottom": 0}, S, thing, 0)
            self.refuses(BadShare, {"top": thing, "bottom": thing}, S, thing, thing)

    def test_sums_differences_and_products(self):
        numbers = [S(top, bottom) for top in (-7, -2, 0, 1, 3, 10) for bottom in (1, 2, 3, 10)]
        for one in numbers:
            self.assertEqual(self.parts(-one), self.parts_of(-fraction(one)))
            for other in numbers + [-3, 0, 1, 4]:
                for made, right in (
                    (one + other, fraction(one) + fraction(other)), (other + one, fraction(one) + fraction(other)),
                    (one - other, fraction(one) - fraction(other)), (other - one, fraction(other) - fraction(one)),
                    (one * other, fraction(one) * fraction(other)), (other * one, fraction(one) * fraction(other)),
                ):
                    self.assertEqual(self.parts(made), self.parts_of(right))

    def parts_of(self, number):
        return Fraction(number).numerator, Fraction(number).denominator

    def test_over_divides_by_shares_and_integers(self):
        for one in (S(3, 4), S(-2, 5), S(0), S(6)):
            for other in (S(1, 3), S(-5, 2), 4, -3, 1, S(7)):
                self.assertEqual(self.parts(one.over(other)), self.parts_of(fraction(one) / fraction(other)))

    def test_over_0(self):
        self.refuses(BadShare, {"top": 3, "bottom": 0}, S(3, 4).over, 0)
        self.refuses(BadShare, {"top": -3, "bottom": 0}, S(-6, 8).over, S(0))
        self.refuses(BadShare, {"top": 0, "bottom": 0}, S(0).over, 0)

    def test_equal_to_shares_and_integers(self):
        self.assertIs(S(2, 4) == h, True)
        self.assertIs(S(1, 3) == h, False)
        self.assertIs(S(1, 2) == S(2), False)
        self.assertIs(S(4, 2) == 2, True)
        self.assertIs(2 == S(4, 2), True)
        self.assertIs(S(3, 2) == 1, False)
        self.assertIs(S(3, 2) == 3, False)
        self.assertIs(S(2) != 2, False)
        self.assertIs(S(2) != S(3), True)

    def test_unequal_to_other_objects_flags_among_them(self):
        for share, flag in ((S(1), True), (S(0), False)):
            self.assertIs(share == flag, False)
            self.assertIs(flag == share, False)
            self.assertIs(share != flag, True)
        for thing in odd_objects():
            if type(thing) not in (int, Share):
                for share in (S(0), S(1), h):
                    self.assertIs(share == thing, False)
                    self.assertIs(share != thing, True)

    def test_less(self):
        numbers = [S(-3), S(-1, 2), S(0), S(1, 3), h, S(2, 3), S(1), S(5, 2)]
        for at, one in enumerate(numbers):
            for spot, other in enumerate(numbers):
                self.assertIs(one.less(other), at < spot)
        self.assertIs(h.less(1), True)
        self.assertIs(S(1).less(1), False)
        self.assertIs(S(3, 2).less(1), False)
        self.assertIs(S(-3, 2).less(-1), True)

    def test_text(self):
        for share, text in (
            (S(3, 4), "3/4"), (S(6, -8), "-3/4"), (S(3), "3"), (S(-3), "-3"), (S(0), "0"), (S(0, 7), "0"),
            (S(10, 5), "2"), (S(10 ** 11, 10 ** 12 - 1), "100000000000/999999999999"),
        ):
            self.assertEqual(str(share), text)

    def test_text_of_long_shares(self):
        long = S(1)
        for _ in range(600):
            long = long * S(10 ** 11, 3)
        self.assertEqual(str(long * S(-3)), "-1" + "0" * 6600 + "/" + str_of_power(3, 599))
        self.assertEqual(str(S(10 ** 64)), "1" + "0" * 64)
        self.assertEqual(str(S(10 ** 64 - 1)), "9" * 64)
        self.assertEqual(str(S(-(10 ** 64) - 7)), "-1" + "0" * 63 + "7")

    def test_arithmetic_changes_nothing(self):
        one, other = S(3, 4), S(1, 4)
        for made in (one + other, one - other, one * other, -one, one.over(other), one + 1, 2 * one):
            self.assertIsNot(made, one)
        self.assertEqual((one.top, one.bottom, other.top, other.bottom), (3, 4, 1, 4))


def str_of_power(base, exponent):
    """The digits of a power, by a way of its own: digit by digit."""
    digits = [1]
    for _ in range(exponent):
        carry = 0
        for at, digit in enumerate(digits):
            carry, digits[at] = divmod(digit * base + carry, 10)
        while carry:
            carry, low = divmod(carry, 10)
            digits.append(low)
    return "".join(str(digit) for digit in reversed(digits))


class SpreadTest(Case):

    def test_spreads(self):
        for many, thing in (
            (1, (1,)), (1, (S(1),)), (2, (h, h)), (2, (0, 1)), (2, (S(0), S(1))), (3, (S(1, 3), S(1, 3), S(1, 3))),
            (3, (0, S(1, 4), S(3, 4))), (9, (0,) * 8 + (1,)), (12, (S(1, 12),) * 12),
        ):
            self.judges(True, is_spread, many, thing)
            self.judges(False, is_spread, many + 1, thing)
            self.judges(False, is_spread, many - 1, thing)

    def test_no_spreads(self):
        for many, thing in (
            (0, ()), (2, [h, h]), (2, (h, S(1, 3))), (2, (h, S(2, 3))), (2, (S(3, 2), -h)), (2, (2, -1)),
            (1, (True,)), (2, (True, False)), (2, (False, 1)), (1, ("1",)), (2, (1, None)), (1, (2,)), (1, (0,)),
            (2, {0: h, 1: h}), (1, 1), (1, S(1)), (2, "ab"), (3, (S(1, 3), S(1, 3), S(333, 1000))),
        ):
            self.judges(False, is_spread, many, thing)

    def test_any_object_is_judged(self):
        for thing in odd_objects():
            for many in (0, 1, 2, 3):
                self.judges(False, is_spread, many, thing)
                if not isinstance(thing, Share):
                    self.judges(False, is_spread, many, (thing,) * many)


class PickTest(Case):

    def test_first_index_with_a_sum_above(self):
        spread = (S(1, 4), 0, S(1, 4), h)
        for share, at in (
            (0, 0), (S(1, 8), 0), (S(1, 4), 2), (S(3, 8), 2), (S(499, 1000), 2), (h, 3), (S(999999, 1000000), 3),
        ):
            self.assertEqual(pick(spread, share), at)
            self.assertIs(type(pick(spread, share)), int)

    def test_items_of_0_are_passed_over(self):
        self.assertEqual(pick((0, 1), 0), 1)
        self.assertEqual(pick((0, 0, h, h), 0), 2)
        self.assertEqual(pick((1, 0), S(99, 100)), 0)
        self.assertEqual(pick((h, 0, h), h), 2)

    def test_any_length(self):
        self.assertEqual(pick((1,), 0), 0)
        self.assertEqual(pick((S(1, 50),) * 50, S(99, 100)), 49)
        self.assertEqual(pick((S(1, 50),) * 50, S(1, 2)), 25)

    def test_drawn_spreads(self):
        draw = source(1)
        for _ in range(50):
            spread = drawn_spread(draw, draw.randint(1, 10))
            share = S(draw.randrange(60), 60)
            sums = [sum([fraction(part) for part in spread[:at + 1]]) for at in range(len(spread))]
            right = [at for at, above in enumerate(sums) if above > fraction(share)][0]
            self.assertEqual(pick(spread, share), right)

    def test_bad_spread_comes_first(self):
        for thing in odd_objects() + [(h,), (1, 1), [1], (True,), ()]:
            self.refuses(BadSpread, {"part": "spread"}, pick, thing, 0)
            self.refuses(BadSpread, {"part": "spread"}, pick, thing, 5)

    def test_bad_factor(self):
        for thing in odd_objects() + [1, S(1), S(-1, 9), S(3, 2), 2]:
            if not (isinstance(thing, Share) and thing == h):
                self.refuses(BadFactor, {"factor": thing}, pick, (h, h), thing)


if __name__ == "__main__":
    unittest.main()
