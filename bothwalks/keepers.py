"""Keepers: papers that stand while a chain is edited."""

from bothwalks.carrying import copied_plan
from bothwalks.errors import BadPaper, NothingDone
from bothwalks.papers import is_near_paper
from bothwalks.shares import share_of
from bothwalks.waiting import is_meeting_paper


class Keeper:
    """A chain that is edited, and the near papers and meeting papers of it that stand."""

    def __init__(self, chain):
        self.chain = chain
        self._standing = {}
        self._next = 0
        self._past = []

    def keep(self, paper):
        """Keep a near paper or a meeting paper of the present chain, and return its number."""
        if not stands(self.chain, paper):
            raise BadPaper()
        number = self._next
        self._change(self.chain, {**self._standing, number: copied_paper(paper)})
        self._next = number + 1
        return number

    def papers(self):
        """The dict from the numbers of the papers that stand to tuples (paper, near, meeting)."""
        return {
            number: (copied_paper(paper), is_near_paper(self.chain, paper), is_meeting_paper(self.chain, paper))
            for number, paper in self._standing.items()
        }

    def row(self, state, spread):
        """Give the state another row, and return the numbers of the papers that fall by it."""
        return self._edit(self.chain.with_row(state, spread))

    def label(self, state, name):
        """Give the state another label, and return the numbers of the papers that fall by it."""
        return self._edit(self.chain.with_label(state, name))

    def undo(self):
        """Take back the last keep or edit that is not taken back yet."""
        if not self._past:
            raise NothingDone()
        self.chain, self._standing = self._past.pop()

    def _edit(self, chain):
        left = {number: paper for number, paper in self._standing.items() if stands(chain, paper)}
        fallen = tuple([number for number in self._standing if number not in left])
        self._change(chain, left)
        return fallen

    def _change(self, chain, standing):
        """Go on to another state of things; what was is never changed, as undo comes back to it."""
        self._past.append((self.chain, self._standing))
        self.chain = chain
        self._standing = standing


def stands(chain, thing):
    """Whether a thing is a near paper or a meeting paper of the chain."""
    return is_near_paper(chain, thing) or is_meeting_paper(chain, thing)


def copied_paper(paper):
    """A copy of a near paper or a meeting paper with Shares, its keys ascending."""
    copied = {}
    for pair in sorted(paper):
        number, tie = paper[pair]
        copied[pair] = (share_of(number), None if tie is None else copied_plan(tie))
    return copied
