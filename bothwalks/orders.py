"""Orders of states, their up sets, and carrying upwards."""

from bothwalks.carrying import carried
from bothwalks.errors import BadOrder, BadSpread
from bothwalks.kinds import check_two_states, index_pairs, is_between, is_index_pair
from bothwalks.shares import is_spread, share_into, shares_of

MOST_ORDERED = 8


class Order:
    """Which of the indexes below a size are below which."""

    def __init__(self, size, pairs):
        if not is_between(1, MOST_ORDERED, size) or not isinstance(pairs, (list, tuple)):
            raise BadOrder()
        if not all([is_index_pair(size, pair) for pair in pairs]):
            raise BadOrder()
        lower = linked(size, pairs)
        if any([(t, s) in lower for s, t in lower]):
            raise BadOrder()
        self.size = size
        self._lower = lower

    def below(self, s, t):
        """Whether s is below t, as each index is below itself, too."""
        check_two_states(self.size, s, t)
        return s == t or (s, t) in self._lower

    def pairs(self):
        """The ascending list of all pairs of unlike indexes of which the first is below the second."""
        return list(self._lower)

    def turned(self):
        """The order the other way about."""
        return Order(self.size, [(t, s) for s, t in self._lower])

    def __eq__(self, other):
        return isinstance(other, Order) and self.size == other.size and self._lower == other._lower


def linked(size, pairs):
    """The ascending tuple of the pairs that chains of these pairs lead from and to, but for equal indexes."""
    lower = {(s, t): True for s, t in pairs}
    for middle in range(size):
        for s, t in index_pairs(size):
            if (s, middle) in lower and (middle, t) in lower:
                lower[(s, t)] = True
    return tuple([(s, t) for s, t in index_pairs(size) if s != t and (s, t) in lower])


def up_sets(order):
    """The ascending list of all up sets."""
    return sorted([states for states in subsets(order.size) if is_up(order, states)])


def subsets(many):
    """All ascending tuples of indexes below many."""
    found = [()]
    for index in range(many):
        found = found + [states + (index,) for states in found]
    return found


def is_up(order, states):
    """Whether all that one of the states is below is among them."""
    return all([t in states for s, t in order.pairs() if s in states])


def line(size):
    """The order 0 below 1 below 2 and so on."""
    if not is_between(1, MOST_ORDERED, size):
        raise BadOrder()
    return Order(size, [(state, state + 1) for state in range(size - 1)])


def under(order, p, q):
    """A plan that carries p to q upwards, or an up set into which p has more than q."""
    if not is_spread(order.size, p):
        raise BadSpread("p")
    if not is_spread(order.size, q):
        raise BadSpread("q")
    states = heavier_up(up_sets(order), p, q)
    if states is not None:
        return ("set", states)
    costs = {(i, j): 0 if order.below(i, j) else 1 for i, j in index_pairs(order.size)}
    return ("plan", carried(shares_of(p), shares_of(q), costs)[1])


def heavier_up(ups, p, q):
    """The first of the up sets into which p has a greater share than q, or None."""
    for states in ups:
        if share_into(q, states).less(share_into(p, states)):
            return states
    return None
