"""Partitions of the states of a machine."""

from bothwalks.kinds import is_index
from bothwalks.shares import share_into


def is_partition(many, thing):
    """Whether a thing is a list or a tuple of nonempty tuples that have each state below many just once."""
    if not isinstance(thing, (list, tuple)):
        return False
    if not all([isinstance(part, tuple) and len(part) > 0 for part in thing]):
        return False
    states = [state for part in thing for state in part]
    return all([is_index(many, state) for state in states]) and sorted(states) == list(range(many))


def grouped(parts, alike):
    """Each of the parts, cut into parts of states that are alike; ascending if the parts are."""
    groups = []
    for part in parts:
        cut = []
        for state in part:
            fitting = [group for group in cut if alike(group[0], state)]
            if fitting:
                fitting[0].append(state)
            else:
                cut.append([state])
        groups.extend(cut)
    return sorted([tuple(group) for group in groups])


def by_labels(labels):
    """The ascending partition of the states that have these labels by them."""
    return grouped([tuple(range(len(labels)))], lambda one, other: labels[one] == labels[other])


def rounds(parts, cutting):
    """The partitions, from the first one on, each of which is cut into the next, till one stays as it is."""
    found = [parts]
    cut = cutting(parts)
    while len(cut) > len(found[-1]):
        found.append(cut)
        cut = cutting(cut)
    return found


def part_shares(row, parts):
    """The shares with which a row goes into each of the parts."""
    return tuple([share_into(row, part) for part in parts])
