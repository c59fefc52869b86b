"""Draws all of whose maps keep an order, or weights that show that there is none."""

from bothwalks.amounts import found_amounts
from bothwalks.chains import chain_rows
from bothwalks.draws import Draw
from bothwalks.errors import Unlike
from bothwalks.kinds import check_few, has_keys, index_pairs
from bothwalks.shares import Share, is_above_zero, is_share, total
from bothwalks.tables import common_bottom, scaled

MOST_RISING = 4


def rising_draw(chain, order):
    """A draw of the chain by rising maps alone, or weights that show that there is none."""
    check_few(chain.size, MOST_RISING)
    if chain.size != order.size:
        raise Unlike()
    maps = rising_maps(order)
    pairs = index_pairs(chain.size)
    shares = [share for row in chain_rows(chain) for share in row]
    scale = common_bottom(shares)
    rows = tuple([tuple([1 if leads[s] == t else 0 for leads in maps]) for s, t in pairs])
    kind, found = found_amounts(rows, tuple(scaled(shares, scale)))
    if kind == "none":
        return ("weights", dict(zip(pairs, found)))
    parts = [(number * Share(1, scale), leads) for number, leads in zip(found, maps) if number != 0]
    return ("draw", Draw(tuple(parts)))


def rising_maps(order):
    """All maps that lead states below one another to such states, ascending."""
    maps = [()]
    for _ in range(order.size):
        maps = [leads + (to,) for leads in maps for to in range(order.size) if goes_on(order, leads, to)]
    return maps


def goes_on(order, leads, to):
    """Whether the next state can be led there, too, as the map has led the states ahead of it."""
    state = len(leads)
    for earlier, place in enumerate(leads):
        if order.below(earlier, state) and not order.below(place, to):
            return False
        if order.below(state, earlier) and not order.below(to, place):
            return False
    return True


def is_rising_weights(chain, order, thing):
    """Whether a thing is weights that show that the chain has no draw by rising maps alone."""
    pairs = index_pairs(chain.size)
    if not has_keys(pairs, thing) or not all([is_share(weight) for weight in thing.values()]):
        return False
    for leads in rising_maps(order):
        if is_above_zero(total([thing[(s, to)] for s, to in enumerate(leads)])):
            return False
    return is_above_zero(total([thing[(s, t)] * chain.row(s)[t] for s, t in pairs]))
