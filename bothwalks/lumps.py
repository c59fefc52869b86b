"""Lumps: states that no walk can tell from one another by labels."""

from bothwalks.chains import Chain
from bothwalks.partitions import grouped, is_partition
from bothwalks.shares import share_into


def lumps(chain):
    """The ascending list of the parts of the coarsest partition by labels and shares into parts."""
    everything = [tuple(range(chain.size))]
    parts = grouped(everything, lambda one, other: chain.label(one) == chain.label(other))
    cut = finer(chain, parts)
    while len(cut) > len(parts):
        parts = cut
        cut = finer(chain, parts)
    return parts


def finer(chain, parts):
    """The parts, cut by the shares with which their states go into each of them."""
    shares = [part_shares(chain, state, parts) for state in range(chain.size)]
    return grouped(parts, lambda one, other: shares[one] == shares[other])


def part_shares(chain, state, parts):
    """The shares with which a state goes into each of the parts."""
    return tuple([share_into(chain.row(state), part) for part in parts])


def lumped(chain):
    """The chain of the lumps, in their order."""
    parts = lumps(chain)
    rows = [part_shares(chain, part[0], parts) for part in parts]
    return Chain(tuple(rows), tuple([chain.label(part[0]) for part in parts]))


def is_lumping(chain, thing):
    """Whether a thing is a partition whose parts have one label and one share into each part."""
    if not is_partition(chain.size, thing):
        return False
    return all([is_alike(chain, part, thing) for part in thing])


def is_alike(chain, part, parts):
    """Whether the states of a part have one label and one share into each of the parts."""
    labels = [chain.label(state) for state in part]
    shares = [part_shares(chain, state, parts) for state in part]
    return all([label == labels[0] for label in labels]) and all([row == shares[0] for row in shares])
