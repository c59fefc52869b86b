"""Two walks at work, and one walk, by given shares."""

from bothwalks.carrying import copied_plan, picked
from bothwalks.kinds import check_state
from bothwalks.shares import pick
from bothwalks.ties import check_tied


class Mark:
    """How two walks stood when a block began, and the mark of the block around it."""

    def __init__(self, places, steps, met, outer):
        self.places = places
        self.steps = steps
        self.met = met
        self.outer = outer


class Both:
    """Two walks of a chain that go on by ties; as a block, they are put back behind it."""

    def __init__(self, chain, ties, s, t):
        check_tied(chain, ties, s, t)
        self.places = (s, t)
        self.steps = 0
        self.met = 0 if s == t else None
        self._chain = chain
        self._plans = {pair: copied_plan(tie) for pair, tie in ties.items()}
        self._mark = None

    def step(self, share):
        """Do one step by a share and return the new places."""
        self.places = self._onward(self.places, share)
        self.steps = self.steps + 1
        if self.met is None and self.places[0] == self.places[1]:
            self.met = self.steps
        return self.places

    def trial(self, shares):
        """The places that would come by these shares; nothing is changed."""
        found = []
        places = self.places
        for share in shares:
            places = self._onward(places, share)
            found.append(places)
        return found

    def _onward(self, places, share):
        """The places behind a step from these places."""
        s, t = places
        if s == t:
            to = pick(self._chain.row(s), share)
            return (to, to)
        return picked(self._plans[places], share)

    def __enter__(self):
        self._mark = Mark(self.places, self.steps, self.met, self._mark)
        return self

    def __exit__(self, kind, value, trace):
        self.places = self._mark.places
        self.steps = self._mark.steps
        self.met = self._mark.met
        self._mark = self._mark.outer


def tried(walk, shares):
    """The places that two walks come to by these shares; behind it, both stand as they stood."""
    with walk:
        return [walk.step(share) for share in shares]


def walked(chain, state, shares):
    """The states of one walk: the state first, then by each share the next one."""
    check_state(chain.size, state)
    place = state
    yield place
    for share in shares:
        place = pick(chain.row(place), share)
        yield place
