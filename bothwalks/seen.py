"""Seen labels: what rows of labels tell of a walk."""

from bothwalks.chains import chain_labels, chain_moves
from bothwalks.equations import solution
from bothwalks.errors import BadSeen, BadSteps
from bothwalks.kinds import check_state, check_two_states, is_between, is_name
from bothwalks.moves import moved
from bothwalks.shares import Share, greatest_index, is_above_zero, total


def check_seen(seen):
    """Raise BadSeen for what is no tuple of 1 to 20 names and Nones."""
    if not isinstance(seen, tuple) or not 1 <= len(seen) <= 20:
        raise BadSeen(-1)
    for at, item in enumerate(seen):
        if item is not None and not is_name(item):
            raise BadSeen(at)


def fits(chain, state, item):
    """Whether the label of a state is the one that is seen, which may be any."""
    return item is None or chain.label(state) == item


def fitting(chain, shares, item):
    """The shares of the states whose label fits."""
    return {state: share for state, share in shares.items() if fits(chain, state, item)}


def shares_seen(chain, state, seen):
    """The dict from states to the shares with which a walk has the seen labels and is there at the last."""
    moves = chain_moves(chain)
    shares = fitting(chain, {state: Share(1)}, seen[0])
    for item in seen[1:]:
        shares = fitting(chain, moved(moves, shares), item)
    return shares


def seen_share(chain, state, seen):
    """The share with which a walk from the state has the seen labels."""
    check_state(chain.size, state)
    check_seen(seen)
    return sum_of(shares_seen(chain, state, seen))


def sum_of(shares):
    """The sum of the shares in a dict."""
    return total(list(shares.values()))


def seen_at(chain, state, seen):
    """The spread of the state at the last item, for walks with the seen labels; None if there are none."""
    check_state(chain.size, state)
    check_seen(seen)
    shares = shares_seen(chain, state, seen)
    whole = sum_of(shares)
    if whole == 0:
        return None
    return tuple([shares.get(place, Share(0)).over(whole) for place in range(chain.size)])


def likeliest(chain, state, seen):
    """The greatest share of a row of states with the seen labels, and the least such row; or None."""
    check_state(chain.size, state)
    check_seen(seen)
    best = best_onward(chain, seen)
    share = best[0][state]
    if share == 0:
        return None
    states = [state]
    for onward in best[1:]:
        row = chain.row(states[-1])
        states.append(greatest_index([row[to] * onward[to] for to in range(chain.size)]))
    return (share, tuple(states))


def best_onward(chain, seen):
    """For each item, the greatest share of a row of states from each state on that fits from this item on."""
    best = [fitting_list(chain, [Share(1)] * chain.size, seen[-1])]
    for item in reversed(seen[:-1]):
        onward = [best_step(chain, state, best[-1]) for state in range(chain.size)]
        best.append(fitting_list(chain, onward, item))
    return list(reversed(best))


def fitting_list(chain, shares, item):
    """A list of shares, one for each state, with 0 for states whose label does not fit."""
    return [share if fits(chain, state, item) else Share(0) for state, share in enumerate(shares)]


def best_step(chain, state, onward):
    """The greatest share of a step from the state with the best that comes behind it."""
    shares = [share * later for share, later in zip(chain.row(state), onward)]
    return shares[greatest_index(shares)]


def unlike_seen(chain, s, t):
    """The first tuple of names that has another share from s than from t, with both; None if there is none.

    What a tuple tells of s and t is the difference of the shares of each state. One
    whose differences are made up by those of tuples ahead of it is followed no
    further: what comes of it, one of those ahead of it shows as well.
    """
    check_two_states(chain.size, s, t)
    moves = chain_moves(chain)
    names = sorted(set(chain_labels(chain)))
    known = []
    waiting = [((), {s: Share(1)}, {t: Share(1)})]
    while waiting:
        later = []
        for seen, one, other in [longer for entry in waiting for longer in extended(chain, moves, names, entry)]:
            if sum_of(one) != sum_of(other):
                return (seen, sum_of(one), sum_of(other))
            difference = [one.get(at, Share(0)) - other.get(at, 0) for at in range(chain.size)]
            if not is_made_up(known, difference):
                known.append(difference)
                later.append((seen, one, other))
        waiting = later
    return None


def extended(chain, moves, names, entry):
    """A tuple of names with the shares from both states, made longer by each of the names."""
    seen, one, other = entry
    if seen:
        one = moved(moves, one)
        other = moved(moves, other)
    return [(seen + (name,), fitting(chain, one, name), fitting(chain, other, name)) for name in names]


def is_made_up(known, row):
    """Whether a row is a sum of known ones, each times some share."""
    if not known:
        return all([share == 0 for share in row])
    return solution(tuple(zip(*known)), tuple(row))[0] != "none"


def gaps(chain, s, t, n):
    """The tuples of n + 1 names that have a greater share from s than from t, ascending, with the difference."""
    check_two_states(chain.size, s, t)
    if not is_between(0, 3, n):
        raise BadSteps(n)
    moves = chain_moves(chain)
    names = sorted(set(chain_labels(chain)))
    entries = [((), {s: Share(1)}, {t: Share(1)})]
    for _ in range(n + 1):
        longer = [entry for shorter in entries for entry in extended(chain, moves, names, shorter)]
        entries = [entry for entry in longer if entry[1]]
    rows = [(seen, sum_of(one) - sum_of(other)) for seen, one, other in entries]
    return [(seen, difference) for seen, difference in rows if is_above_zero(difference)]


def greatest_gap(chain, s, t, n):
    """The greatest difference of the shares from s and t, over all sets of tuples of n + 1 names."""
    return total([difference for seen, difference in gaps(chain, s, t, n)])


def gap_rows(chain, s, t, n):
    """The ascending list of the tuples of n + 1 names whose share is greater for s than for t."""
    return [seen for seen, difference in gaps(chain, s, t, n)]
