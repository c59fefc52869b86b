"""Partitions of the states of a machine."""

from bothwalks.kinds import is_index


def is_partition(many, thing):
    """Whether a thing is a list or a tuple of nonempty tuples that have each state below many just once."""
    if not isinstance(thing, (list, tuple)):
        return False
    if not all([isinstance(part, tuple) and len(part) > 0 for part in thing]):
        return False
    states = [state for part in thing for state in part]
    return all([is_index(many, state) for state in states]) and sorted(states) == list(range(many))


def grouped(parts, alike):
    """Each of the parts, cut into parts of states that are alike; ascending if the parts are."""
    groups = []
    for part in parts:
        cut = []
        for state in part:
            fitting = [group for group in cut if alike(group[0], state)]
            if fitting:
                fitting[0].append(state)
            else:
                cut.append([state])
        groups.extend(cut)
    return sorted([tuple(group) for group in groups])
