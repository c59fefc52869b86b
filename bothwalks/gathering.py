"""Gathering: draws again and again that lead all states to one."""

from bothwalks.draws import summed
from bothwalks.errors import BadSteps
from bothwalks.halves import half, halves
from bothwalks.kinds import check_few, is_between, is_index_pair
from bothwalks.moves import able_places, behind, hit_mean
from bothwalks.shares import Share

MOST_MEAN = 5
MOST_SHARES = 4


def led(states, leads):
    """The states to which a map leads some states, as an ascending tuple."""
    return tuple(sorted(set([leads[state] for state in states])))


def everywhere(draw):
    """The tuple of all states."""
    return tuple(range(draw.size))


def gather_word(draw):
    """The shortest, of these the least, row of parts that leads all states to one; None if there is none.

    The rows are looked at from short to long, and ascending among equals, each only
    if it leads to states to which none before it led.
    """
    words = {everywhere(draw): ()}
    waiting = [everywhere(draw)]
    while waiting:
        later = []
        for states in waiting:
            if len(states) == 1:
                return words[states]
            for at, (_, leads) in enumerate(draw.parts):
                to = led(states, leads)
                if to not in words:
                    words[to] = words[states] + (at,)
                    later.append(to)
        waiting = later
    return None


def stuck(draw):
    """The ascending list of the pairs that no row of maps leads to one state."""
    pairs = halves(draw.size)
    moves = {(s, t): [half((leads[s], leads[t])) for _, leads in draw.parts] for s, t in pairs}
    able = able_places(moves, pairs, [(state, state) for state in range(draw.size)])
    return [pair for pair in pairs if pair not in able]


def is_stuck(draw, thing):
    """Whether a thing is a nonempty tuple of pairs of unlike states that each map leads to such pairs."""
    if not isinstance(thing, tuple) or not thing or not all([is_index_pair(draw.size, pair) for pair in thing]):
        return False
    pairs = {half(pair): True for pair in thing}
    if any([s == t for s, t in pairs]):
        return False
    return all([half((leads[s], leads[t])) in pairs for s, t in pairs for _, leads in draw.parts])


def set_moves(draw):
    """The moves over the tuples of states at which all states can be behind some draws."""
    moves = {}
    waiting = [everywhere(draw)]
    while waiting:
        states = waiting.pop()
        if states not in moves:
            moves[states] = summed(draw, [led(states, leads) for _, leads in draw.parts])
            waiting.extend(list(moves[states]))
    return moves


def gather_mean(draw):
    """The mean number of draws till all states are led to one; None if it may never be."""
    check_few(draw.size, MOST_MEAN)
    return hit_mean(set_moves(draw), everywhere(draw), [(state,) for state in range(draw.size)])


def gather_shares(draw, n):
    """For each state the share with which n draws, each done ahead of the earlier ones, lead all to it.

    Draws are alike and free of one another; so it is the same share with which n draws,
    each done behind the earlier ones, do so.
    """
    check_few(draw.size, MOST_SHARES)
    if not is_between(0, 8, n):
        raise BadSteps(n)
    shares = behind(set_moves(draw), {everywhere(draw): Share(1)}, n)
    return tuple([shares.get((state,), Share(0)) for state in range(draw.size)])
