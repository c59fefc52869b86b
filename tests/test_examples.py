"""The examples of the document, as they are written."""

import unittest

from bothwalks.amounts import amounts
from bothwalks.carrying import carry
from bothwalks.equations import solve
from bothwalks.shares import Share

S = Share
h = S(1, 2)


class ExamplesTest(unittest.TestCase):

    def test_e01(self):
        self.assertEqual(str(S(6, -8)), "-3/4")
        self.assertIs(S(1, 2) + 1 == S(3, 2), True)
        self.assertIs(S(1) == True, False)  # noqa: E712

    def test_e02(self):
        self.assertEqual(solve(((1, 1), (1, -1)), (3, 1)), ("one", (S(2), S(1))))

    def test_e03(self):
        self.assertEqual(amounts(((1, 1),), (-1,))[0], "none")

    def test_e04(self):
        self.assertEqual(carry((h, h), (1, 0), {(0, 0): 0, (0, 1): 1, (1, 0): 1, (1, 1): 0})[0], h)


if __name__ == "__main__":
    unittest.main()
