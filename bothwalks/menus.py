"""Menus: machines in each of whose states one of a few spreads is chosen."""

from bothwalks.chains import Chain, chain_labels, chain_rows
from bothwalks.errors import BadChain, BadMenu, NoChoice
from bothwalks.kinds import (
    check_few, check_state, check_way, is_index, is_name_row, is_tuple_between, wrong_moves,
)
from bothwalks.shares import is_spread, shares_of

MOST_MENU = 5
MOST_SPREADS = 3


class Menu:
    """A machine in each of whose states one of a few spreads, its options, is chosen."""

    def __init__(self, moves, labels):
        wrong = wrong_moves(moves, MOST_MENU, are_spreads)
        if wrong is not None:
            raise BadMenu(wrong)
        if not is_name_row(len(moves), labels):
            raise BadChain("labels")
        self.size = len(moves)
        self._moves = tuple([tuple([shares_of(spread) for spread in options]) for options in moves])
        self._labels = labels

    def options(self, state):
        """How many options the state has."""
        check_state(self.size, state)
        return len(self._moves[state])

    def label(self, state):
        """The name that the state shows."""
        check_state(self.size, state)
        return self._labels[state]

    def spread(self, state, option):
        """The spread of the option of this number."""
        if not is_index(self.options(state), option):
            raise NoChoice(option)
        return self._moves[state][option]

    def followed(self, way):
        """The chain that goes by the way, a tuple of the number of an option for each state."""
        check_way(self.size, way, lambda state, option: is_index(self.options(state), option))
        return Chain(tuple([self.spread(state, option) for state, option in enumerate(way)]), self._labels)

    def __eq__(self, other):
        return isinstance(other, Menu) and self._moves == other._moves and self._labels == other._labels


def are_spreads(many, thing):
    """Whether a thing is the options of a state of so many."""
    return is_tuple_between(1, MOST_SPREADS, thing) and all([is_spread(many, spread) for spread in thing])


def state_spreads(menu, state):
    """The spreads of all options of a state, in a list."""
    return [menu.spread(state, option) for option in range(menu.options(state))]


def menu_labels(menu):
    """All labels of a menu, in a list."""
    return [menu.label(state) for state in range(menu.size)]


def single(chain):
    """The menu with the rows of the chain as only options."""
    check_few(chain.size, MOST_MENU)
    return Menu(tuple([(row,) for row in chain_rows(chain)]), tuple(chain_labels(chain)))
