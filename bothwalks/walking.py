"""One walk of a chain: where it is, where it can come, and where it ends."""

from math import gcd

from bothwalks.chains import chain_moves
from bothwalks.equations import only_values
from bothwalks.errors import BadSpread, BadStates, BadSteps, NotClosed
from bothwalks.kinds import check_state, is_between, is_index_row
from bothwalks.moves import behind, hit_mean, hit_share, moved, places_ahead
from bothwalks.shares import Share, is_any_spread, is_spread, share_of, shares_of, total, without_sign


def after(chain, spread, steps):
    """The spread behind so many steps."""
    if not is_spread(chain.size, spread):
        raise BadSpread("spread")
    if not is_between(0, 60, steps):
        raise BadSteps(steps)
    shares = behind(chain_moves(chain), dict(enumerate(shares_of(spread))), steps)
    return tuple([shares.get(state, Share(0)) for state in range(chain.size)])


def reached(chain, state):
    """The ascending list of the states that can come from the state in 0 or more steps."""
    check_state(chain.size, state)
    return sorted(places_ahead(chain_moves(chain), state, ()))


def apart(p, q):
    """Half of the sum of the differences of both spreads."""
    if not is_any_spread(p):
        raise BadSpread("p")
    if not is_spread(len(p), q):
        raise BadSpread("q")
    return total([without_sign(share_of(one) - other) for one, other in zip(p, q)]) * Share(1, 2)


def closed_parts(chain):
    """The ascending tuples of states that can all come from one another and cannot be left."""
    ahead = [reached(chain, state) for state in range(chain.size)]
    parts = []
    for state, states in enumerate(ahead):
        if all([state in ahead[other] for other in states]) and tuple(states) not in parts:
            parts.append(tuple(states))
    return parts


def part_of(chain, state):
    """The closed part of a state; NoState, or NotClosed if it is of none."""
    check_state(chain.size, state)
    for part in closed_parts(chain):
        if state in part:
            return part
    raise NotClosed(state)


def period(chain, state):
    """The greatest common divisor of the numbers of steps by which the state can come back."""
    part_of(chain, state)
    moves = chain_moves(chain)
    steps = {state: 0}
    waiting = [state]
    common = 0
    while waiting:
        place = waiting.pop()
        for to in moves[place]:
            if to not in steps:
                steps[to] = steps[place] + 1
                waiting.append(to)
            # Two ways to a place differ by a multiple of the period, and such differences make it up.
            common = gcd(common, steps[place] + 1 - steps[to])
    return common


def rest(chain, state):
    """The only spread that is 0 outside of the closed part of the state and stays the same by a step."""
    part = part_of(chain, state)
    rows = [
        tuple([chain.row(place)[to] - (1 if place == to else 0) for place in part])
        for to in part
    ]
    rows.append((1,) * len(part))
    values = only_values(tuple(rows), (0,) * len(part) + (1,))
    shares = dict(zip(part, values))
    return tuple([shares.get(place, Share(0)) for place in range(chain.size)])


def is_rest(chain, thing):
    """Whether a thing is a spread that stays the same by a step."""
    if not is_spread(chain.size, thing):
        return False
    later = moved(chain_moves(chain), dict(enumerate(shares_of(thing))))
    return all([later.get(state, 0) == thing[state] for state in range(chain.size)])


def ends(chain, state):
    """The dict from the closed parts to the shares with which a walk from the state comes to them."""
    check_state(chain.size, state)
    moves = chain_moves(chain)
    return {part: hit_share(moves, state, part) for part in closed_parts(chain)}


def mean_steps(chain, state, goals):
    """The mean number of steps till a walk from the state is at a goal; None if this is not sure."""
    check_state(chain.size, state)
    if not is_index_row(chain.size, goals):
        raise BadStates()
    return hit_mean(chain_moves(chain), state, goals)
