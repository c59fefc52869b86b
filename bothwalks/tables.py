"""Tables of integers that stand for fractions over one bottom, changed by exact pivots."""

from math import lcm


def common_bottom(shares):
    """The least integer above 0 by which all of the Shares become integers."""
    common = 1
    for share in shares:
        common = lcm(common, share.bottom)
    return common


def scaled(shares, scale):
    """The Shares times a multiple of all their bottoms, as a list of integers."""
    return [share.top * (scale // share.bottom) for share in shares]


def crossed(line, lead, column, bottom):
    """A line freed of its number in the column by the lead line, over the lead's number there."""
    by = lead[column]
    times = line[column]
    if times == 0:
        return [by * number // bottom for number in line]
    return [(by * number - times * above) // bottom for number, above in zip(line, lead)]


class Table:
    """Lines of integers over one bottom.

    The division in a pivot leaves no remainder (all numbers are minors of the
    first lines), so that they stay short without a common divisor being sought.
    """

    def __init__(self, lines):
        self.lines = lines
        self.bottom = 1

    def pivot(self, at, column):
        """Free all lines but one of their numbers in a column, in which this one has no 0."""
        lead = self.lines[at]
        if lead[column] < 0:
            lead = [-number for number in lead]
        bottom = self.bottom
        self.lines = [
            lead if spot == at else crossed(line, lead, column, bottom)
            for spot, line in enumerate(self.lines)
        ]
        self.bottom = lead[column]
