"""Draws: one share that moves all states of a chain at once."""

from bothwalks.chains import chain_rows, row_moves
from bothwalks.errors import BadDraw
from bothwalks.kinds import check_few, is_index, is_tuple_of, unlike_pairs
from bothwalks.shares import Share, is_above_zero, share_of, total
from bothwalks.tables import common_bottom, scaled

MOST_PARTS = 300
MOST_LED = 8
MOST_FREE = 3


class Draw:
    """Shares of maps, each of which leads all states at once."""

    def __init__(self, parts):
        if not isinstance(parts, tuple) or not 1 <= len(parts) <= MOST_PARTS:
            raise BadDraw(-1)
        size = map_length(parts[0])
        shares = {}
        for at, part in enumerate(parts):
            if not is_part(size, part) or part[1] in shares:
                raise BadDraw(at)
            shares[part[1]] = share_of(part[0])
        if total(list(shares.values())) != 1:
            raise BadDraw(-1)
        self.size = size
        self.parts = tuple([(shares[leads], leads) for leads in sorted(shares)])

    def rows(self):
        """The spreads by which each state is led, as a tuple."""
        rows = []
        for state in range(self.size):
            shares = summed(self, [leads[state] for _, leads in self.parts])
            rows.append(tuple([shares.get(to, Share(0)) for to in range(self.size)]))
        return tuple(rows)

    def ties(self):
        """The ties of two walks that go by the same map."""
        return {
            (s, t): summed(self, [(leads[s], leads[t]) for _, leads in self.parts])
            for s, t in unlike_pairs(self.size)
        }

    def __eq__(self, other):
        return isinstance(other, Draw) and self.parts == other.parts


def map_length(part):
    """The length of the map of a part; 0 for what is none."""
    if not is_tuple_of(2, part) or not isinstance(part[1], tuple):
        return 0
    return len(part[1])


def is_part(size, thing):
    """Whether a thing is a pair of a share above 0 and a map of so many states."""
    if not 1 <= size <= MOST_LED or not is_tuple_of(2, thing) or not is_above_zero(thing[0]):
        return False
    return is_tuple_of(size, thing[1]) and all([is_index(size, state) for state in thing[1]])


def summed(draw, keys):
    """The dict from keys, one for each part of a draw, to the sums of the shares of their parts, ascending."""
    shares = [share for share, _ in draw.parts]
    scale = common_bottom(shares)
    sums = {}
    for key, number in zip(keys, scaled(shares, scale)):
        sums[key] = sums.get(key, 0) + number
    return {key: Share(sums[key], scale) for key in sorted(sums)}


def is_draw_of(chain, thing):
    """Whether a thing is a draw with the rows of the chain."""
    return isinstance(thing, Draw) and thing.rows() == tuple(chain_rows(chain))


def same_draw(chain):
    """The draw that moves all states by one share, as pick does."""
    rows = chain_rows(chain)
    scale = common_bottom([share for row in rows for share in row])
    sums = [running_sums(scaled(row, scale)) for row in rows]
    cuts = sorted(set([0] + [number for line in sums for number in line]))
    parts = []
    for begin, end in zip(cuts, cuts[1:]):
        leads = tuple([first_above(line, begin) for line in sums])
        parts.append((Share(end - begin, scale), leads))
    return Draw(tuple(parts))


def running_sums(numbers):
    """The sums of the numbers up to each of them, with it."""
    sums = []
    for number in numbers:
        sums.append(number + (sums[-1] if sums else 0))
    return sums


def first_above(sums, number):
    """The first index at which a sum is above the number."""
    return [at for at, up_to in enumerate(sums) if up_to > number][0]


def free_draw(chain):
    """The draw that moves each state by itself."""
    check_few(chain.size, MOST_FREE)
    parts = [(Share(1), ())]
    for row in chain_rows(chain):
        parts = [(share * part, leads + (to,)) for share, leads in parts for to, part in row_moves(row).items()]
    return Draw(tuple(parts))
