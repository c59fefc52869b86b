"""Linear equations, solved exactly."""

from bothwalks.errors import BadRight, BadRows
from bothwalks.shares import Share, is_share_row, shares_of
from bothwalks.tables import Table, common_bottom, scaled


def check_equations(rows, right, most_rows, most_unknowns):
    """Raise BadRows or BadRight for what are no equations of at most this size."""
    if not isinstance(rows, tuple) or not 1 <= len(rows) <= most_rows:
        raise BadRows(-1)
    first = rows[0]
    if not isinstance(first, tuple) or not 1 <= len(first) <= most_unknowns:
        raise BadRows(0)
    for at, row in enumerate(rows):
        if not is_share_row(len(first), row):
            raise BadRows(at)
    if not is_share_row(len(rows), right):
        raise BadRight()


def solve(rows, right):
    """All about the solutions of the equations: one, many, or none with the weights that show it."""
    check_equations(rows, right, 60, 60)
    return solution(rows, right)


def solution(rows, right):
    """As solve, for equations of any size that are right ones."""
    table = Table([whole_line(row + (end,)) for row, end in zip(rows, right)])
    unknowns = len(rows[0])
    leads = eliminated(table, unknowns)
    for at, line in enumerate(table.lines):
        if line[unknowns] != 0 and at not in list(leads.values()):
            return ("none", clash(rows, leads, at))
    values = [Share(0)] * unknowns
    for column, at in leads.items():
        values[column] = Share(table.lines[at][unknowns], table.bottom)
    loose = loose_unknowns(table, leads, unknowns)
    if loose:
        return ("many", tuple(values), loose)
    return ("one", tuple(values))


def whole_line(row):
    """The integers of an equation, multiplied by the bottoms of its shares."""
    shares = shares_of(row)
    return scaled(shares, common_bottom(shares))


def eliminated(table, unknowns):
    """Pivot in as many columns as can be; the dict from these to the lines that lead in them."""
    leads = {}
    used = {}
    for column in range(unknowns):
        for at, line in enumerate(table.lines):
            if at not in used and line[column] != 0:
                leads[column] = at
                used[at] = True
                break
        if column in leads:
            table.pivot(leads[column], column)
    return leads


def loose_unknowns(table, leads, unknowns):
    """The ascending indexes of the unknowns that are not the same in all solutions."""
    free = [column for column in range(unknowns) if column not in leads]
    moved = [
        column for column, at in leads.items()
        if any([table.lines[at][other] != 0 for other in free])
    ]
    return tuple(sorted(free + moved))


def clash(rows, leads, at):
    """Weights that free the left sides of all unknowns, but not the right ones.

    The row at the index is a sum of leading rows on the left alone. What it takes
    of each is settled by the leading columns.
    """
    weights = [Share(0)] * len(rows)
    weights[at] = Share(1)
    spots = sorted(list(leads.values()))
    if spots:
        sides = tuple([tuple([rows[spot][column] for spot in spots]) for column in leads])
        taken = solution(sides, tuple([-rows[at][column] for column in leads]))[1]
        for spot, weight in zip(spots, taken):
            weights[spot] = weight
    return tuple(weights)


def only_values(rows, right):
    """The solution of equations that have just one."""
    return solution(rows, right)[1]
