"""Lumps of menus: states whose options cannot be told from one another by labels."""

from bothwalks.menus import menu_labels, state_spreads
from bothwalks.partitions import by_labels, grouped, is_partition, part_shares, rounds


def menu_lumps(menu):
    """The ascending list of the parts of the coarsest partition by labels and what options share out to parts."""
    return menu_rounds(menu)[-1]


def menu_rounds(menu):
    """The partitions from that by labels to the lumps, each cut by what options share out to the one ahead of it."""
    return rounds(by_labels(menu_labels(menu)), lambda parts: finer_parts(menu, parts))


def finer_parts(menu, parts):
    """The parts, cut by what the options of their states share out to each of them."""
    told = [option_shares(menu, state, parts) for state in range(menu.size)]
    return grouped(parts, lambda one, other: is_same_told(told[one], told[other]))


def option_shares(menu, state, parts):
    """For each option of a state, the shares with which it goes into each of the parts."""
    return [part_shares(spread, parts) for spread in state_spreads(menu, state)]


def is_same_told(one, other):
    """Whether each of the rows in one list is in the other list, too, both ways about."""
    return all([row in other for row in one]) and all([row in one for row in other])


def is_menu_lumping(menu, thing):
    """Whether a thing is a partition whose parts have one label and options with the same shares into each part."""
    if not is_partition(menu.size, thing):
        return False
    return all([is_menu_alike(menu, part, thing) for part in thing])


def is_menu_alike(menu, part, parts):
    """Whether the states of a part have one label, and options that share out the same to each of the parts."""
    labels = [menu.label(state) for state in part]
    told = [option_shares(menu, state, parts) for state in part]
    return all([label == labels[0] for label in labels]) and all([is_same_told(told[0], rows) for rows in told])
