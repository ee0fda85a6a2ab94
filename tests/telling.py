"""How the tests look at RATIOS that are told."""
import unittest
from fractions import Fraction

from freshparts.ratios import is_ratio

from byhand import pair


class Told(unittest.TestCase):
    def one(self, found, expected):
        """Just this RATIO, of just these kinds."""
        self.assertEqual(found, pair(Fraction(expected)))
        self.assertTrue(is_ratio(found))
        self.assertIs(type(found), tuple)

    def right(self, found, expected):
        """Just a tuple of these RATIOS."""
        self.assertIs(type(found), tuple)
        self.assertEqual(len(found), len(expected))
        for chance, other in zip(found, expected):
            self.one(chance, other)
