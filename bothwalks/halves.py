"""One half of all pairs of states: what holds of (s, t) with s < t tells what holds of (t, s)."""

from bothwalks.kinds import in_order, index_pairs


def halves(many):
    """All pairs (s, t) of indexes below many with s < t, ascending."""
    return [(s, t) for s, t in index_pairs(many) if s < t]


def half(pair):
    """The pair, or the pair the other way about, whichever does not descend."""
    return (min(pair), max(pair))


def unfolded(many, numbers, same):
    """The dict from all pairs to their numbers; numbers has them for the halves, same for equal indexes."""
    return {pair: same if pair[0] == pair[1] else numbers[half(pair)] for pair in index_pairs(many)}


def folded(tie):
    """The amounts of a tie, those of both ways about put together."""
    amounts = {}
    for pair, amount in tie.items():
        amounts[half(pair)] = amounts.get(half(pair), 0) + amount
    return amounts


def turned_tie(tie):
    """The tie of both walks the other way about."""
    return in_order({(j, i): amount for (i, j), amount in tie.items()})


def unfolded_ties(ties):
    """Ties of all pairs of unlike states, out of those of the halves."""
    both = {pair: ties[pair] for pair in ties}
    for s, t in ties:
        both[(t, s)] = turned_tie(ties[(s, t)])
    return in_order(both)
