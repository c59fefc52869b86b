"""Lumps: states that no walk can tell from one another by labels."""

from bothwalks.chains import Chain, chain_labels
from bothwalks.partitions import by_labels, grouped, is_partition, part_shares, rounds


def lumps(chain):
    """The ascending list of the parts of the coarsest partition by labels and shares into parts."""
    return rounds(by_labels(chain_labels(chain)), lambda parts: finer(chain, parts))[-1]


def finer(chain, parts):
    """The parts, cut by the shares with which their states go into each of them."""
    shares = [part_shares(chain.row(state), parts) for state in range(chain.size)]
    return grouped(parts, lambda one, other: shares[one] == shares[other])


def lumped(chain):
    """The chain of the lumps, in their order."""
    parts = lumps(chain)
    rows = [part_shares(chain.row(part[0]), parts) for part in parts]
    return Chain(tuple(rows), tuple([chain.label(part[0]) for part in parts]))


def is_lumping(chain, thing):
    """Whether a thing is a partition whose parts have one label and one share into each part."""
    if not is_partition(chain.size, thing):
        return False
    return all([is_alike(chain, part, thing) for part in thing])


def is_alike(chain, part, parts):
    """Whether the states of a part have one label and one share into each of the parts."""
    labels = [chain.label(state) for state in part]
    shares = [part_shares(chain.row(state), parts) for state in part]
    return all([label == labels[0] for label in labels]) and all([row == shares[0] for row in shares])
