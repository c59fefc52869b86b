"""Chains, and chains put together of chains."""

from bothwalks.errors import BadChain, BadStates, TooMany
from bothwalks.kinds import check_state, is_index_row, is_name_row, is_tuple_between
from bothwalks.shares import is_spread, shares_of

MOST_STATES = 8


class Chain:
    """A machine that goes from state to state by the shares of its rows."""

    def __init__(self, rows, labels):
        if not is_tuple_between(1, MOST_STATES, rows) or not all([is_spread(len(rows), row) for row in rows]):
            raise BadChain("rows")
        if not is_name_row(len(rows), labels):
            raise BadChain("labels")
        self.size = len(rows)
        self._rows = tuple([shares_of(row) for row in rows])
        self._labels = labels

    def row(self, state):
        """The shares with which a walk goes from the state to each state."""
        check_state(self.size, state)
        return self._rows[state]

    def label(self, state):
        """The name that the state shows."""
        check_state(self.size, state)
        return self._labels[state]

    def with_row(self, state, spread):
        """The chain with another row of the state."""
        check_state(self.size, state)
        return Chain(self._rows[:state] + (spread,) + self._rows[state + 1:], self._labels)

    def with_label(self, state, name):
        """The chain with another label of the state."""
        check_state(self.size, state)
        return Chain(self._rows, self._labels[:state] + (name,) + self._labels[state + 1:])

    def __eq__(self, other):
        return isinstance(other, Chain) and self._rows == other._rows and self._labels == other._labels


def chain_rows(chain):
    """All rows of a chain, in a list."""
    return [chain.row(state) for state in range(chain.size)]


def chain_labels(chain):
    """All labels of a chain, in a list."""
    return [chain.label(state) for state in range(chain.size)]


def chain_moves(chain):
    """The moves of a chain: for each state the dict from the states that may come next to their shares."""
    return {state: row_moves(chain.row(state)) for state in range(chain.size)}


def row_moves(row):
    """The dict from the indexes at which a row is not 0 to its shares there."""
    return {to: share for to, share in enumerate(row) if share != 0}


def beside(one, other):
    """The chain of both side by side, the states of the other one moved on."""
    if one.size + other.size > MOST_STATES:
        raise TooMany(MOST_STATES)
    rows = [row + (0,) * other.size for row in chain_rows(one)]
    moved = [(0,) * one.size + row for row in chain_rows(other)]
    return Chain(tuple(rows + moved), tuple(chain_labels(one) + chain_labels(other)))


def product(one, other):
    """The chain of pairs, in which both go on at once and for themselves."""
    if one.size * other.size > MOST_STATES:
        raise TooMany(MOST_STATES)
    rows = [
        tuple([share * with_it for share in row for with_it in beside_row])
        for row in chain_rows(one) for beside_row in chain_rows(other)
    ]
    labels = [(first + second)[:8] for first in chain_labels(one) for second in chain_labels(other)]
    return Chain(tuple(rows), tuple(labels))


def onto(chain, states):
    """The chain of just these states, in this order, which no step leaves."""
    if not is_index_row(chain.size, states):
        raise BadStates()
    rows = [tuple([chain.row(state)[to] for to in states]) for state in states]
    if not all([is_spread(len(states), row) for row in rows]):
        raise BadStates()
    return Chain(tuple(rows), tuple([chain.label(state) for state in states]))
