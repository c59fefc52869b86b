"""Exact shares, and spreads of them."""

from math import gcd

from bothwalks.errors import BadFactor, BadShare, BadSpread
from bothwalks.kinds import is_tuple_of, is_whole

BLOCK = 10 ** 64


def digits(number):
    """The decimal digits of an integer, in blocks: str alone refuses very long ones."""
    blocks = []
    left = abs(number)
    while left >= BLOCK:
        left, low = divmod(left, BLOCK)
        blocks.append(str(low).zfill(64))
    sign = "-" if number < 0 else ""
    return "".join([sign, str(left), *blocks[::-1]])


class Share:
    """The fraction top / bottom in lowest terms, with a bottom above 0."""

    def __init__(self, top, bottom=1):
        if not is_whole(top) or not is_whole(bottom) or bottom == 0:
            raise BadShare(top, bottom)
        common = gcd(top, bottom) if bottom > 0 else -gcd(top, bottom)
        self.top = top // common
        self.bottom = bottom // common

    def __add__(self, other):
        if not is_share(other):
            return NotImplemented
        beside = share_of(other)
        return Share(self.top * beside.bottom + beside.top * self.bottom, self.bottom * beside.bottom)

    def __radd__(self, other):
        if not is_whole(other):
            return NotImplemented
        return self + other

    def __neg__(self):
        return Share(-self.top, self.bottom)

    def __sub__(self, other):
        if not is_share(other):
            return NotImplemented
        return self + -other

    def __rsub__(self, other):
        if not is_whole(other):
            return NotImplemented
        return -self + other

    def __mul__(self, other):
        if not is_share(other):
            return NotImplemented
        beside = share_of(other)
        return Share(self.top * beside.top, self.bottom * beside.bottom)

    def __rmul__(self, other):
        if not is_whole(other):
            return NotImplemented
        return self * other

    def __eq__(self, other):
        if isinstance(other, Share):
            return self.top == other.top and self.bottom == other.bottom
        return is_whole(other) and self.bottom == 1 and self.top == other

    def __str__(self):
        if self.bottom == 1:
            return f"{digits(self.top)}"
        return f"{digits(self.top)}/{digits(self.bottom)}"

    def __repr__(self):
        return f"Share({digits(self.top)}, {digits(self.bottom)})"

    def over(self, other):
        """The share divided by a Share or an integer."""
        if not is_share(other):
            raise BadShare(self.top, other)
        if other == 0:
            raise BadShare(self.top, 0)
        beside = share_of(other)
        return Share(self.top * beside.bottom, self.bottom * beside.top)

    def less(self, other):
        """Whether the share is less than a Share or an integer."""
        beside = share_of(other)
        return self.top * beside.bottom < beside.top * self.bottom


def is_share(thing):
    """Whether a thing is a Share or an integer, which may stand for one."""
    return isinstance(thing, Share) or is_whole(thing)


def is_share_row(many, thing):
    """Whether a thing is a tuple of so many shares."""
    return is_tuple_of(many, thing) and all([is_share(part) for part in thing])


def share_of(thing):
    """The Share that a Share or an integer stands for."""
    if isinstance(thing, Share):
        return thing
    return Share(thing)


def shares_of(row):
    """The Shares that the items of a row stand for, as a tuple."""
    return tuple([share_of(part) for part in row])


def total(row):
    """The sum of shares, as a Share also where there is none."""
    return sum(row, start=Share(0))


def share_into(row, indexes):
    """The share with which a row goes into some indexes."""
    return total([row[index] for index in indexes])


def greatest_index(shares):
    """The first index at which a list of shares is greatest."""
    best = 0
    for at, share in enumerate(shares):
        if shares[best].less(share):
            best = at
    return best


def least_index(shares):
    """The first index at which a list of shares is least."""
    return greatest_index([-share for share in shares])


def without_sign(share):
    """The share or its opposite, whichever is not below 0."""
    if share.less(0):
        return -share
    return share


def is_from_zero(thing):
    """Whether a thing is a share from 0 on."""
    return is_share(thing) and not share_of(thing).less(0)


def is_numbered(thing):
    """Whether a thing is a pair of a share from 0 on and anything else."""
    return is_tuple_of(2, thing) and is_from_zero(thing[0])


def is_above_zero(thing):
    """Whether a thing is a share above 0."""
    return is_share(thing) and share_of(0).less(thing)


def is_spread(many, thing):
    """Whether a thing is a spread of so many items."""
    if not is_tuple_of(many, thing) or not all([is_from_zero(part) for part in thing]):
        return False
    return total(thing) == 1


def is_any_spread(thing):
    """Whether a thing is a spread of any length."""
    return isinstance(thing, tuple) and is_spread(len(thing), thing)


def pick(spread, share):
    """The first index at which the sum of the items up to it, with it, is above the share."""
    if not is_any_spread(spread):
        raise BadSpread("spread")
    if not is_from_zero(share) or not share_of(share).less(1):
        raise BadFactor(share)
    at = 0
    left = share - spread[0]
    while not share_of(left).less(0):
        at = at + 1
        left = left - spread[at]
    return at
