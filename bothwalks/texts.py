"""Texts of chains and of ties."""

from bothwalks.carrying import is_plan
from bothwalks.chains import MOST_STATES, Chain
from bothwalks.errors import BadText, BadTies
from bothwalks.kinds import is_name, unlike_pairs
from bothwalks.shares import Share, is_spread, share_of
from bothwalks.ties import is_ties

DIGITS = "0123456789"
MOST_DIGITS = 100


def closed_rows(rows):
    """The text of these rows, each closed by a line feed."""
    return "".join([f"{row}\n" for row in rows])


def written(chain):
    """The text of a chain."""
    rows = []
    for state in range(chain.size):
        shares = " ".join([str(share) for share in chain.row(state)])
        rows.append(f"{chain.label(state)}: {shares}")
    return closed_rows(rows)


def written_ties(chain, ties):
    """The text of ties of a chain."""
    if not is_ties(chain, ties):
        raise BadTies()
    return closed_rows([tie_row(pair, ties[pair]) for pair in sorted(ties)])


def tie_row(pair, tie):
    """The row that tells the tie of a pair."""
    s, t = pair
    amounts = ", ".join([f"{i} {j} {share_of(tie[(i, j)])}" for i, j in sorted(tie)])
    return f"{s} {t}: {amounts}"


def text_rows(text):
    """The rows of a text; BadText for what is no string, and for what stands behind the last line feed."""
    if not isinstance(text, str):
        raise BadText(0)
    pieces = text.split("\n")
    if pieces[-1] != "":
        raise BadText(len(pieces))
    return pieces[:-1]


def read(text):
    """The chain whose text it is."""
    rows = text_rows(text)
    if not rows:
        raise BadText(1)
    found = [told_row(row) for row in rows]
    for at, told in enumerate(found):
        if told is None:
            raise BadText(at + 1)
    for at, (_, spread) in enumerate(found):
        if len(spread) != len(rows):
            raise BadText(at + 1)
    return Chain(tuple([spread for _, spread in found]), tuple([label for label, _ in found]))


def told_row(row):
    """The label and the spread that a row of a chain's text tells, or None."""
    label, *words = row.split(" ")
    if not label.endswith(":") or not is_name(label[:-1]) or len(words) > MOST_STATES:
        return None
    spread = tuple([told_share(word) for word in words])
    if not is_spread(len(words), spread):
        return None
    return (label[:-1], spread)


def told_share(word):
    """The share from 0 on that a word tells as str writes it, with at most 100 digits in a row; or None."""
    top, sign, bottom = word.partition("/")
    if not is_number_word(top) or (sign != "" and not is_number_word(bottom)) or bottom == "0":
        return None
    share = Share(int(top), int(bottom or "1"))
    if str(share) != word:
        return None
    return share


def is_number_word(word):
    """Whether a word is an integer from 0 on without needless zeros, of at most 100 digits."""
    if not 1 <= len(word) <= MOST_DIGITS or not all([sign in DIGITS for sign in word]):
        return False
    return word == "0" or word[0] != "0"


def read_ties(chain, text):
    """The ties of the chain whose text it is."""
    rows = text_rows(text)
    due = unlike_pairs(chain.size)
    ties = {}
    for at, row in enumerate(rows):
        tie = told_tie(chain, due[at], row) if at < len(due) else None
        if tie is None:
            raise BadText(at + 1)
        ties[due[at]] = tie
    if len(rows) < len(due):
        raise BadText(len(rows) + 1)
    return ties


def told_tie(chain, pair, row):
    """The tie of the pair that a row of a ties' text tells, or None."""
    s, t = pair
    head = f"{s} {t}: "
    if not row.startswith(head):
        return None
    amounts = [told_amount(words) for words in row[len(head):].split(", ")]
    if any([told is None for told in amounts]):
        return None
    places = [to for to, _ in amounts]
    tie = {to: share for to, share in amounts}
    if places != sorted(set(places)) or not is_plan(chain.row(s), chain.row(t), tie):
        return None
    return tie


def told_amount(words):
    """The pair of numbers and the share that three words tell, or None; what is no share is told as None, too."""
    parts = words.split(" ")
    if len(parts) != 3 or not all([is_number_word(part) for part in parts[:2]]):
        return None
    return ((int(parts[0]), int(parts[1])), told_share(parts[2]))
