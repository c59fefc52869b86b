"""What kind of thing an object is: integers, indexes, names and dicts over pairs of indexes."""

from bothwalks.errors import BadWay, NoState, TooMany

LETTERS = "abcdefghijklmnopqrstuvwxyz"


def is_whole(thing):
    """Whether a thing is an integer; a flag is none."""
    return isinstance(thing, int) and not isinstance(thing, bool)


def is_count(thing):
    """Whether a thing is an integer from 0 on."""
    return is_whole(thing) and thing >= 0


def is_between(least, most, thing):
    """Whether a thing is an integer from least to most."""
    return is_whole(thing) and least <= thing <= most


def is_index(many, thing):
    """Whether a thing is an index below many."""
    return is_between(0, many - 1, thing)


def check_state(size, state):
    """Raise NoState for any object that is no state of a machine of this size."""
    if not is_index(size, state):
        raise NoState(state)


def check_two_states(size, s, t):
    """Raise NoState for the first of both that is no state of a machine of this size."""
    check_state(size, s)
    check_state(size, t)


def check_few(size, limit):
    """Raise TooMany for a machine of more states than the limit."""
    if size > limit:
        raise TooMany(limit)


def is_name(thing):
    """Whether a thing is a string of 1 to 8 letters a to z."""
    if not isinstance(thing, str) or not 1 <= len(thing) <= 8:
        return False
    return all([letter in LETTERS for letter in thing])


def is_tuple_of(many, thing):
    """Whether a thing is a tuple of so many items."""
    return isinstance(thing, tuple) and len(thing) == many


def is_tuple_between(least, most, thing):
    """Whether a thing is a tuple of at least so many items and at most so many."""
    return isinstance(thing, tuple) and least <= len(thing) <= most


def is_name_row(many, thing):
    """Whether a thing is a tuple of so many names."""
    return is_tuple_of(many, thing) and all([is_name(part) for part in thing])


def is_index_pair(many, thing):
    """Whether a thing is a pair of indexes below many."""
    return is_tuple_of(2, thing) and is_index(many, thing[0]) and is_index(many, thing[1])


def is_pair_dict(many, thing):
    """Whether a thing is a dict from some pairs of indexes below many."""
    return isinstance(thing, dict) and all([is_index_pair(many, key) for key in thing])


def is_index_row(many, thing):
    """Whether a thing is a nonempty tuple of unlike indexes below many."""
    if not isinstance(thing, tuple) or not thing:
        return False
    return all([is_index(many, part) for part in thing]) and len(set(thing)) == len(thing)


def is_index_set(many, thing):
    """Whether a thing is an ascending tuple of unlike indexes below many."""
    if not isinstance(thing, tuple) or not all([is_index(many, part) for part in thing]):
        return False
    return list(thing) == sorted(set(thing))


def index_pairs(many):
    """All pairs of indexes below many, ascending."""
    return [(one, other) for one in range(many) for other in range(many)]


def unlike_pairs(many):
    """All pairs of unlike indexes below many, ascending."""
    return [(one, other) for one, other in index_pairs(many) if one != other]


def is_whole_row(thing):
    """Whether a thing is a tuple of integers."""
    return isinstance(thing, tuple) and all([is_whole(part) for part in thing])


def has_keys(keys, thing):
    """Whether a thing is a dict with just these tuples of integers as keys.

    A flag equals an integer as a key; so each key is looked at itself.
    """
    if not isinstance(thing, dict) or len(thing) != len(keys):
        return False
    return all([is_whole_row(key) for key in thing]) and all([key in thing for key in keys])


def in_order(told):
    """A dict with its keys ascending."""
    return {key: told[key] for key in sorted(told)}


def wrong_moves(moves, most, are_options):
    """None for a tuple of the options of 1 to so many states; otherwise the first state that is wrong, or -1.

    are_options judges the options of one state, for so many states.
    """
    if not is_tuple_between(1, most, moves):
        return -1
    for state, options in enumerate(moves):
        if not are_options(len(moves), options):
            return state
    return None


def check_way(size, way, fits):
    """Raise BadWay for what is no tuple of a choice for each state; fits judges that of one state."""
    if not is_tuple_of(size, way):
        raise BadWay(-1)
    for state, item in enumerate(way):
        if not fits(state, item):
            raise BadWay(state)
