"""Equations for amounts from 0 on: solutions, cheapest ones, and weights that refuse them."""

from bothwalks.equations import check_equations
from bothwalks.errors import BadCosts
from bothwalks.shares import is_above_zero, is_from_zero, is_share_row, total
from bothwalks.simplex import Simplex


def amounts(rows, right):
    """Shares from 0 on that solve the equations, or weights that show that there are none."""
    check_equations(rows, right, 20, 40)
    return found_amounts(rows, right)


def found_amounts(rows, right):
    """As amounts, for equations of any size that are right ones."""
    simplex = Simplex(rows, right, (0,) * len(rows[0]))
    simplex.lessen(simplex.many)
    if simplex.lack():
        return ("none", simplex.lack_weights())
    return ("some", simplex.present())


def cheapest(rows, right, costs):
    """The cheapest shares from 0 on that solve the equations, with weights that show it."""
    check_equations(rows, right, 20, 40)
    if not is_share_row(len(rows[0]), costs):
        raise BadCosts()
    simplex = Simplex(rows, right, costs)
    simplex.lessen(simplex.many)
    if simplex.lack():
        return ("none", simplex.lack_weights())
    simplex.settle()
    endless = simplex.lessen(simplex.many + 1)
    values = simplex.present()
    if endless is not None:
        return ("falls", values, simplex.way(endless))
    return ("least", weighed(costs, values), values, simplex.cost_weights())


def weighed(weights, row):
    """The sum of the items of a row, each times its weight."""
    return total([weight * part for weight, part in zip(weights, row)])


def is_amounts(rows, right, thing):
    """Whether a thing is a tuple of shares from 0 on that solve the equations."""
    if not is_share_row(len(rows[0]), thing) or not all([is_from_zero(part) for part in thing]):
        return False
    return all([weighed(row, thing) == end for row, end in zip(rows, right)])


def is_refusal(rows, right, thing):
    """Whether a thing is a tuple of weights that show that no shares from 0 on solve the equations."""
    if not is_share_row(len(rows), thing):
        return False
    if any([is_above_zero(weighed(thing, column)) for column in zip(*rows)]):
        return False
    return is_above_zero(weighed(thing, right))
