"""Machines with choices: what each way to choose is worth, and which way is worth the most."""

from bothwalks.chains import Chain, row_moves
from bothwalks.errors import BadChoices, BadFactor, NoOption
from bothwalks.kinds import check_state, check_way, is_name, is_tuple_between, is_tuple_of, wrong_moves
from bothwalks.moves import place_values
from bothwalks.shares import (
    greatest_index, is_above_zero, is_share, is_share_row, is_spread, share_of, shares_of, total,
)

MOST_CHOOSING = 5
MOST_OPTIONS = 3


class Choices:
    """A machine in each of whose states one of a few options is taken, each with a pay."""

    def __init__(self, moves, factor):
        wrong = wrong_moves(moves, MOST_CHOOSING, are_choices)
        if wrong is not None:
            raise BadChoices(wrong)
        if not is_above_zero(factor) or not share_of(factor).less(1):
            raise BadFactor(factor)
        self.size = len(moves)
        self.factor = share_of(factor)
        self._options = tuple([options_by_name(options) for options in moves])

    def names(self, state):
        """The names of the options of the state, an ascending tuple."""
        check_state(self.size, state)
        return tuple(list(self._options[state]))

    def pay(self, state, name):
        """What the option of this name pays in the state."""
        return self._option(state, name)[0]

    def row(self, state, name):
        """The spread by which the option of this name leads on from the state."""
        return self._option(state, name)[1]

    def _option(self, state, name):
        check_state(self.size, state)
        if not isinstance(name, str) or name not in self._options[state]:
            raise NoOption(name)
        return self._options[state][name]


def are_choices(many, thing):
    """Whether a thing is the options of a state of so many."""
    if not is_tuple_between(1, MOST_OPTIONS, thing) or not all([is_choice(many, option) for option in thing]):
        return False
    return len(set([name for name, _, _ in thing])) == len(thing)


def is_choice(many, thing):
    """Whether a thing is a tuple of a name, a share and a spread of so many items."""
    return is_tuple_of(3, thing) and is_name(thing[0]) and is_share(thing[1]) and is_spread(many, thing[2])


def options_by_name(options):
    """The dict from the names of options, ascending, to their pays and spreads."""
    told = {name: (share_of(pay), shares_of(spread)) for name, pay, spread in options}
    return {name: told[name] for name in sorted(told)}


def check_named(choices, way):
    """Raise BadWay for what is no tuple of a name of an option for each state."""
    check_way(choices.size, way, lambda state, name: name in choices.names(state))


def worths(choices, way):
    """The worth of each state by the way."""
    check_named(choices, way)
    return way_worths(choices, way)


def way_worths(choices, way):
    """As worths, for a right way."""
    moves = {}
    for state, name in enumerate(way):
        onward = row_moves(choices.row(state, name))
        moves[state] = {to: share * choices.factor for to, share in onward.items()}
    pays = [choices.pay(state, name) for state, name in enumerate(way)]
    values = place_values(moves, list(moves), pays)
    return tuple([values[state] for state in range(choices.size)])


def option_worths(choices, state, known):
    """What the options of a state are worth, in the order of their names, with known worths of what comes next."""
    found = []
    for name in choices.names(state):
        onward = total([share * worth for share, worth in zip(choices.row(state, name), known)])
        found.append(choices.pay(state, name) + choices.factor * onward)
    return found


def best_worths(choices):
    """The greatest worths over all ways.

    A way is bettered in each state in which another option is worth more than what it
    has; each time some worth rises and none falls, and there are but so many ways.
    """
    way = tuple([choices.names(state)[0] for state in range(choices.size)])
    known = way_worths(choices, way)
    better = bettered_way(choices, way, known)
    while better != way:
        way = better
        known = way_worths(choices, way)
        better = bettered_way(choices, way, known)
    return known


def bettered_way(choices, way, known):
    """The way, with the option that is worth the most wherever this is more than is known."""
    names = []
    for state, name in enumerate(way):
        found = option_worths(choices, state, known)
        best = greatest_index(found)
        names.append(choices.names(state)[best] if known[state].less(found[best]) else name)
    return tuple(names)


def best_way(choices):
    """The least way that has the greatest worths: the first best option of each state."""
    known = best_worths(choices)
    names = []
    for state in range(choices.size):
        names.append(choices.names(state)[greatest_index(option_worths(choices, state, known))])
    return tuple(names)


def is_best_worths(choices, thing):
    """Whether a thing is the tuple of the greatest worths.

    Only these are, in each state, what the best option is worth by them.
    """
    if not is_share_row(choices.size, thing):
        return False
    return all([best_option_worth(choices, state, thing) == known for state, known in enumerate(thing)])


def best_option_worth(choices, state, known):
    """What the best option of a state is worth, with known worths of what comes next."""
    found = option_worths(choices, state, known)
    return found[greatest_index(found)]


def way_chain(choices, way, labels):
    """The chain that goes by the way."""
    check_named(choices, way)
    return Chain(tuple([choices.row(state, name) for state, name in enumerate(way)]), labels)
