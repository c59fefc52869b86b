"""Amounts from 0 on that solve equations, and cheapest ones, by an exact simplex."""

from bothwalks.shares import Share, shares_of
from bothwalks.tables import Table, common_bottom, scaled


class Simplex:
    """Equations over amounts from 0 on, with a basis that solves them.

    Each equation has an own lack, an amount that fills it up at the begin: first
    the lacks are driven down to 0, then the costs are. The lacks' columns stay in
    the table, as the weights of the equations can be read off them.
    """

    def __init__(self, rows, right, costs):
        self.unknowns = len(rows[0])
        self.many = len(rows)
        self.factors = []
        lines = []
        for at, row in enumerate(rows):
            shares = shares_of(row + (right[at],))
            factor = common_bottom(shares)
            if shares[-1].less(0):
                factor = -factor
            self.factors.append(factor)
            numbers = scaled(shares, factor)
            lacks = [1 if other == at else 0 for other in range(self.many)]
            lines.append(numbers[:-1] + lacks + numbers[-1:])
        shares = shares_of(costs)
        self.scale = common_bottom(shares)
        lines.append(self.lack_line(lines))
        lines.append(scaled(shares, self.scale) + [0] * (self.many + 1))
        self.table = Table(lines)
        self.basis = [self.unknowns + at for at in range(self.many)]

    def lack_line(self, lines):
        """What each unknown saves of the sum of all lacks."""
        sums = [-sum(column) for column in zip(*lines)]
        return sums[:self.unknowns] + [0] * self.many + sums[-1:]

    def lessen(self, line):
        """Step on while an unknown lowers this line; the unknown that lowers it without end, or None.

        The least such unknown comes in and, of those that go first, the least goes
        out, as then no basis comes again.
        """
        entering = self.lowering(line)
        while entering is not None:
            leaving = self.first_to_go(entering)
            if leaving is None:
                return entering
            self.enter(leaving, entering)
            entering = self.lowering(line)
        return None

    def lowering(self, line):
        """The least unknown with a number below 0 in the line, or None."""
        numbers = self.table.lines[line]
        for column in range(self.unknowns):
            if numbers[column] < 0:
                return column
        return None

    def first_to_go(self, column):
        """The line whose amount is first at 0 as the unknown grows, or None."""
        best = None
        for at in range(self.many):
            line = self.table.lines[at]
            if line[column] > 0 and (best is None or self.goes_ahead(at, best, column)):
                best = at
        return best

    def goes_ahead(self, at, best, column):
        """Whether the amount of a line is at 0 ahead of that of the best so far."""
        line = self.table.lines[at]
        other = self.table.lines[best]
        early = line[-1] * other[column] - other[-1] * line[column]
        return early < 0 or (early == 0 and self.basis[at] < self.basis[best])

    def enter(self, at, column):
        """Take the unknown into the basis instead of what stands at this place."""
        self.table.pivot(at, column)
        self.basis[at] = column

    def settle(self):
        """Take lacks of 0 out of the basis, but for those of equations that the others make needless."""
        for at in range(self.many):
            line = self.table.lines[at]
            columns = [column for column in range(self.unknowns) if line[column] != 0]
            if self.basis[at] >= self.unknowns and columns:
                self.enter(at, columns[0])

    def present(self):
        """The amounts of the unknowns in the basis."""
        amounts = [Share(0)] * self.unknowns
        for at, column in enumerate(self.basis):
            if column < self.unknowns:
                amounts[column] = Share(self.table.lines[at][-1], self.table.bottom)
        return tuple(amounts)

    def lack(self):
        """Whether the lacks are not yet 0."""
        return self.table.lines[self.many][-1] != 0

    def lack_weights(self):
        """Weights of the equations by which the sum of all lacks is bounded from below."""
        bottom = self.table.bottom
        return self.weights(self.many, bottom, bottom)

    def cost_weights(self):
        """Weights of the equations by which the cost is bounded from below."""
        return self.weights(self.many + 1, 0, self.table.bottom * self.scale)

    def weights(self, line, whole, bottom):
        """The weights that the lacks' columns show: each one's own cost less its number in the line."""
        lacks = self.table.lines[line][self.unknowns:-1]
        return tuple([
            Share((whole - number) * factor, bottom) for number, factor in zip(lacks, self.factors)
        ])

    def way(self, entering):
        """How the amounts change for each step of the unknown that lowers without end."""
        changes = [Share(0)] * self.unknowns
        changes[entering] = Share(1)
        for at, column in enumerate(self.basis):
            if column < self.unknowns:
                changes[column] = Share(-self.table.lines[at][entering], self.table.bottom)
        return tuple(changes)
