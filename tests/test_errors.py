"""[0.3] and the interface: the error classes, what they derive from and what they keep."""

import inspect
import unittest

from bothwalks import errors
from tests.helpers import Case, odd_objects

KEPT = {
    "BadShare": ("top", "bottom"), "BadRows": ("index",), "BadRight": (), "BadCosts": (),
    "BadSpread": ("part",), "BadFactor": ("factor",), "BadChain": ("part",), "NoState": ("state",),
    "TooMany": ("limit",), "BadStates": (), "BadSteps": ("steps",), "NotClosed": ("state",),
    "BadSeen": ("index",), "BadTies": (), "Never": (), "BadOrder": (), "Unlike": (), "BadDraw": ("index",),
    "BadChoices": ("state",), "NoOption": ("name",), "BadWay": ("state",), "BadPaper": (),
    "NothingDone": (), "BadText": ("line",), "BadMenu": ("state",), "NoChoice": ("option",),
    "BadDuel": ("part",), "NoChallenge": ("challenge",), "Over": (),
}


class ErrorsTest(Case):

    def test_walk_error_derives_directly_from_value_error(self):
        self.assertEqual(errors.WalkError.__bases__, (ValueError,))

    def test_all_derive_directly_from_walk_error(self):
        for name in KEPT:
            self.assertEqual(getattr(errors, name).__bases__, (errors.WalkError,), name)

    def test_there_are_no_others(self):
        classes = [name for name, thing in vars(errors).items() if inspect.isclass(thing)]
        self.assertEqual(sorted(classes), sorted(list(KEPT) + ["WalkError"]))

    def test_they_keep_what_they_are_made_with(self):
        things = odd_objects()
        for name, kept in KEPT.items():
            for thing in things:
                error = getattr(errors, name)(*[thing] * len(kept))
                self.assertEqual(sorted(vars(error)), sorted(kept))
                for part in kept:
                    self.assertIs(getattr(error, part), thing)

    def test_each_attribute_keeps_its_own_argument(self):
        error = errors.BadShare("one", "other")
        self.assertEqual((error.top, error.bottom), ("one", "other"))

    def test_they_are_made_with_just_these(self):
        for name, kept in KEPT.items():
            with self.assertRaises(TypeError, msg=name):
                getattr(errors, name)(*[0] * (len(kept) + 1))
            if kept:
                with self.assertRaises(TypeError, msg=name):
                    getattr(errors, name)(*[0] * (len(kept) - 1))

    def test_they_can_be_shown_whatever_they_keep(self):
        for name, kept in KEPT.items():
            for thing in (10 ** 6000, [1], None):
                self.assertTrue(str(getattr(errors, name)(*[thing] * len(kept))))


if __name__ == "__main__":
    unittest.main()
