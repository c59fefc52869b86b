"""What several tests need: odd objects, chains drawn from a seed, sums in fractions, and all corner plans."""

import itertools
import random
import unittest
from fractions import Fraction

from bothwalks.errors import BadSteps
from bothwalks.shares import Share

S = Share
h = S(1, 2)


def fraction(share):
    """A share or an integer as a Fraction, which knows nothing of the package."""
    if isinstance(share, Share):
        return Fraction(share.top, share.bottom)
    return Fraction(share)


def fractions(row):
    return [fraction(share) for share in row]


def odd_objects():
    """Objects of the built-in kinds but floats, and of the package's own classes, also nested 30 deep."""
    deep_tuple, deep_list, deep_dict = (), [], {}
    for _ in range(29):
        deep_tuple, deep_list, deep_dict = (deep_tuple,), [deep_list], {0: deep_dict}
    from bothwalks.both import Both
    from bothwalks.chains import Chain
    from bothwalks.choices import Choices
    from bothwalks.draws import Draw
    from bothwalks.duelling import Duel
    from bothwalks.keepers import Keeper
    from bothwalks.menus import Menu
    from bothwalks.orders import Order
    lone = Chain(((1,),), ("a",))
    menu = Menu((((1,),),), ("a",))
    calls = {(0, 0, 0, 0): (0, {(0, 0): 1}), (0, 0, 1, 0): (0, {(0, 0): 1})}
    return [
        None, True, False, -1, 10 ** 30, -(10 ** 30), 1j, 0j, "", "a", "abcdefghi", "A", "a b", "1/2",
        b"", b"a", bytearray(b"a"), memoryview(b"a"),
        (), (None,), (True,), (0, 0, 0, "x"), ("a", 1), ((),), [], [0], ["a"], [(0, 1)], {}, {0: 0}, {"a": 1},
        {(0, True): 1}, {(False, True): 1}, {(0, 0): None}, {(0, 1, 2): 1}, {None: None}, {(0, 1j): 1}, {"ab": 1},
        {frozenset(): 1}, {((0, 1), 1): 1}, {b"ab": 1},
        set(), {0}, {(0, 1)}, frozenset(), frozenset({0}), range(3), range(0), range(10 ** 30), slice(0, 1),
        Ellipsis, NotImplemented, object(), object, int, type, Share, Chain, len, lambda: 0, (x for x in ()),
        iter([]), zip(), enumerate([]), reversed([]), map(len, []), ValueError("x"), {}.keys(), {0: 1}.items(),
        [].append, property(), unittest,
        Share(1, 2), Share(-3), Share(10 ** 13, 3), Chain(((1,),), ("a",)), BadSteps(1),
        Order(2, [(0, 1)]), Draw(((1, (0, 0)),)), Order, Draw, menu, Choices(((("a", 1, (1,)),),), Share(1, 2)),
        Keeper(lone), Both(lone, {}, 0, 0), Duel(menu, calls, 0, 0), Menu, Keeper,
        (Share(1, 2), None), [Share(1, 2), Share(1, 2)], {0: Share(1)},
        deep_tuple, deep_list, deep_dict,
    ]


class Case(unittest.TestCase):
    """A test case that can ask for an error with just what it keeps."""

    def refuses(self, error, kept, call, *given):
        """The call raises this very error, and each thing that it keeps is the one that is told."""
        try:
            call(*given)
        except ValueError as e:
            self.assertIs(type(e), error)
            self.assertEqual(sorted(vars(e)), sorted(kept))
            for name, thing in kept.items():
                if isinstance(thing, (int, str)):
                    self.assertIs(type(getattr(e, name)), type(thing))
                    self.assertEqual(getattr(e, name), thing)
                else:
                    self.assertIs(getattr(e, name), thing)
        else:
            self.fail(f"{error.__name__} was not raised")

    def is_share(self, thing):
        self.assertIs(type(thing), Share)

    def are_shares(self, row):
        for thing in row:
            self.is_share(thing)

    def judges(self, right, judge, *given):
        """A judge gives just this flag."""
        self.assertIs(judge(*given), right)


def drawn_spread(draw, many, zeros=0.3):
    """A spread drawn from a source, of shares with small bottoms, some of them 0."""
    parts = [0 if draw.random() < zeros else draw.randint(1, 5) for _ in range(many)]
    if not any(parts):
        parts[draw.randrange(many)] = 1
    return tuple(S(part, sum(parts)) for part in parts)


def drawn_chain(draw, many, names="ab", zeros=0.4):
    """A chain drawn from a source."""
    from bothwalks.chains import Chain
    rows = tuple(drawn_spread(draw, many, zeros) for _ in range(many))
    return Chain(rows, tuple(draw.choice(names) for _ in range(many)))


def drawn_choices(draw, many, most=3, zeros=0.4):
    """A machine with choices drawn from a source, with 1 to so many options in each state."""
    from bothwalks.choices import Choices
    moves = []
    for _ in range(many):
        names = draw.sample(["a", "b", "c", "go", "no", "zz"], draw.randint(1, most))
        moves.append(tuple((name, S(draw.randint(-9, 9), draw.randint(1, 3)), drawn_spread(draw, many, zeros))
                           for name in names))
    return Choices(tuple(moves), S(draw.randint(1, 4), 5))


def drawn_menu(draw, many, names="ab", zeros=0.4, most=3):
    """A menu drawn from a source, with 1 to so many options in each state."""
    from bothwalks.menus import Menu
    moves = tuple(
        tuple(drawn_spread(draw, many, zeros) for _ in range(draw.randint(1, most))) for _ in range(many)
    )
    return Menu(moves, tuple(draw.choice(names) for _ in range(many)))


def source(seed):
    """A source that draws the same in each run."""
    return random.Random(seed)


def all_pairs(chain):
    return [(s, t) for s in range(chain.size) for t in range(chain.size)]


def unlike_pairs(chain):
    return [(s, t) for s, t in all_pairs(chain) if s != t]


def corner_plans(p, q):
    """The plans that carry p to q and whose pairs make no ring: some cheapest plan is always among them.

    Each comes of some order of the pairs in which each pair takes all that it can.
    """
    found, seen = [], set()

    def go_on(left, lack, plan):
        place = tuple(sorted(plan.items()))
        if place in seen:
            return
        seen.add(place)
        ways = [(i, j) for i in range(len(p)) for j in range(len(p)) if left[i] and lack[j]]
        if not ways:
            found.append({pair: S(amount.numerator, amount.denominator) for pair, amount in plan.items()})
        for i, j in ways:
            amount = min(left[i], lack[j])
            left[i], lack[j] = left[i] - amount, lack[j] - amount
            go_on(left, lack, {**plan, (i, j): amount})
            left[i], lack[j] = left[i] + amount, lack[j] + amount

    go_on(fractions(p), fractions(q), {})
    return found


def corner_ties(chain, most):
    """All ties of corner plans, in a list; None if there are more than so many."""
    pairs = unlike_pairs(chain)
    plans = [corner_plans(chain.row(s), chain.row(t)) for s, t in pairs]
    many = 1
    for some in plans:
        many = many * len(some)
    if many > most:
        return None
    return [dict(zip(pairs, chosen)) for chosen in itertools.product(*plans)]


def small_chains(seed, many, names, most=300):
    """Drawn chains of 2 to 4 states, each with all its ties of corner plans, of which there are not too many."""
    draw = source(seed)
    found = []
    while len(found) < many:
        chain = drawn_chain(draw, draw.randint(2, 4), draw.choice(names), draw.choice([0.3, 0.5, 0.6]))
        ties = corner_ties(chain, most)
        if ties is not None and (len(ties) > 1 or draw.random() < 0.2):
            found.append((chain, ties))
    return found


def least_of(numbers):
    """The least of some shares, where None is greater than each."""
    known = [fraction(number) for number in numbers if number is not None]
    return min(known) if known else None


def like_pairs(menu):
    """The pairs of states with the same label."""
    return [(s, t) for s, t in all_pairs(menu) if menu.label(s) == menu.label(t)]


def challenges_of(menu, s, t):
    """All challenges of a pair."""
    return [(0, option) for option in range(menu.options(s))] + [(1, option) for option in range(menu.options(t))]


def spreads_met(menu, s, t, challenge, answer):
    """The spreads of the first and the second walker that come of a challenge and the option that answers it."""
    side, option = challenge
    if side == 0:
        return menu.spread(s, option), menu.spread(t, answer)
    return menu.spread(s, answer), menu.spread(t, option)


def corner_answers(menu, s, t, challenge):
    """All answers of corner plans to a challenge."""
    other = t if challenge[0] == 0 else s
    return [
        (answer, plan) for answer in range(menu.options(other))
        for plan in corner_plans(*spreads_met(menu, s, t, challenge, answer))
    ]


def some_challenges(draw, menu):
    """Challenges of all pairs with the same label, drawn from a source."""
    return {(s, t): draw.choice(challenges_of(menu, s, t)) for s, t in like_pairs(menu)}


def some_plan(draw, p, q):
    """A corner plan that carries p to q: the pairs, in an order drawn from a source, each take all that they can."""
    left, lack, plan = list(p), list(q), {}
    pairs = [(i, j) for i in range(len(p)) for j in range(len(q))]
    for i, j in draw.sample(pairs, len(pairs)):
        amount = left[i] if left[i].less(lack[j]) else lack[j]
        if amount != 0:
            left[i], lack[j], plan[(i, j)] = left[i] - amount, lack[j] - amount, amount
    return plan


def some_answers(draw, menu):
    """Answers of corner plans to all challenges, drawn from a source."""
    found = {}
    for s, t in like_pairs(menu):
        for challenge in challenges_of(menu, s, t):
            option = draw.randrange(menu.options(t if challenge[0] == 0 else s))
            found[(s, t) + challenge] = (option, some_plan(draw, *spreads_met(menu, s, t, challenge, option)))
    return found
