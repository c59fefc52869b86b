"""[0.3] to [0.5]: arguments stay as they are, what is returned is new, equal arguments give equal answers."""

import copy
import unittest

from bothwalks.amounts import amounts, cheapest
from bothwalks.carrying import carry, is_plan, is_prices, plan_cost, worth
from bothwalks.equations import solve
from bothwalks.shares import Share, pick
from tests.helpers import Case, S, h


def shown(thing):
    """A text of all that a thing holds, shares told from integers and dicts in their order."""
    if isinstance(thing, Share):
        return f"Share {thing.top} {thing.bottom}"
    if isinstance(thing, dict):
        return "{" + ", ".join(f"{shown(key)}: {shown(part)}" for key, part in thing.items()) + "}"
    if isinstance(thing, (list, tuple)):
        return f"{type(thing).__name__}({', '.join(shown(part) for part in thing)})"
    return f"{type(thing).__name__} {thing!r}"


def spoil(thing):
    """Change each list and dict in what was returned."""
    if isinstance(thing, dict):
        for part in list(thing.values()):
            spoil(part)
        thing["spoilt"] = 1
    elif isinstance(thing, list):
        for part in thing:
            spoil(part)
        thing.append("spoilt")
    elif isinstance(thing, tuple):
        for part in thing:
            spoil(part)


def calls():
    """Calls of the functions with right arguments."""
    costs = {(1, 1): 0, (0, 1): S(1, 3), (1, 0): 2, (0, 0): S(1, 5)}
    plan = {(1, 0): S(1, 4), (0, 0): S(1, 4), (1, 1): h}
    p, q = (S(1, 4), S(3, 4)), (h, h)
    rows = ((1, 2, 3), (0, h, 1))
    return [
        (pick, ((h, h), S(3, 4))), (solve, (rows, (1, 2))), (solve, (((1, 1), (2, 2)), (1, 3))),
        (solve, (((1, 1), (1, -1)), (3, 1))), (amounts, (rows, (4, 1))), (amounts, (rows, (-1, 1))),
        (cheapest, (rows, (4, 1), (1, 1, 1))), (cheapest, (((1, -1),), (0,), (-1, 0))),
        (carry, (p, q, costs)), (is_plan, (p, q, plan)), (is_prices, (costs, ((0, 0), (0, 0)))),
        (plan_cost, (costs, plan)), (worth, (p, q, ((1, 2), (3, 4)))),
    ]


class GeneralTest(Case):

    def test_arguments_stay_as_they_are(self):
        for call, given in calls():
            before = shown(given)
            call(*given)
            self.assertEqual(shown(given), before, call.__name__)

    def test_equal_arguments_give_equal_answers(self):
        for call, given in calls():
            answer = shown(call(*given))
            self.assertEqual(shown(call(*given)), answer, call.__name__)
            self.assertEqual(shown(call(*copy.deepcopy(given))), answer, call.__name__)

    def test_lists_and_dicts_that_are_returned_are_new(self):
        for call, given in calls():
            before = shown(given)
            answer = call(*given)
            right = shown(answer)
            spoil(answer)
            self.assertEqual(shown(given), before, call.__name__)
            self.assertEqual(shown(call(*given)), right, call.__name__)

    def test_keys_that_are_returned_ascend(self):
        def look(thing):
            if isinstance(thing, dict):
                self.assertEqual(list(thing), sorted(thing))
                thing = list(thing.values())
            if isinstance(thing, (list, tuple)):
                for part in thing:
                    look(part)
        for call, given in calls():
            look(call(*given))

    def test_what_was_returned_may_be_passed_on_whatever_its_size(self):
        long = S(1, 3)
        for _ in range(8):
            long = long * long + S(1, 7)
        self.assertGreater(long.bottom, 10 ** 100)
        self.assertEqual(solve(((long,),), (1,)), ("one", (S(1).over(long),)))
        p = (long.over(2), 1 - long.over(2))
        self.assertEqual(carry(p, (0, 1), {(0, 0): 0, (0, 1): long, (1, 0): 0, (1, 1): 0})[0], p[0] * long)


if __name__ == "__main__":
    unittest.main()
