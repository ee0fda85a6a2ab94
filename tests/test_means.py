"""[3] FULL and [12]."""
import unittest
from fractions import Fraction

from freshparts.lives import is_life, short
from freshparts.means import mean, mean_square, round_of
from freshparts.ratios import is_ratio

from byhand import EMPTY, GEOMETRIC, SAMPLES, at, lack, life, pair


class Means(unittest.TestCase):
    def right(self, told, expected):
        self.assertEqual(told, pair(Fraction(expected)))
        self.assertIs(type(told), tuple)
        self.assertTrue(is_ratio(told))

    def test_mean_by_written_numbers(self):
        for told, expected in ((life("1"), 1), (life("0 1"), 2), (life("1/2 1/2"), "3/2"), (GEOMETRIC, 2),
                               (life("1/2 1/4", "1/2"), 2), (life("1/9", "8/9"), 9), (life("1/3", "2/3"), 3),
                               (life("0 1/2", "1/2"), 3), (life("0 0 1/3 0 0 2/3"), 5), (life("1 0 0", "8/9"), 1),
                               (life("1/2 1/2 0"), "3/2"), (life("1/2 1/4 1/8", "1/2"), 2)):
            self.assertTrue(is_life(told))
            self.right(mean(told), expected)

    def test_mean_square_by_written_numbers(self):
        for told, expected in ((life("1"), 1), (life("0 1"), 4), (life("1/2 1/2"), "5/2"), (GEOMETRIC, 6),
                               (life("1/2 1/4", "1/2"), 6), (life("1/9", "8/9"), 153), (life("1/3", "2/3"), 15),
                               (life("0 1/2", "1/2"), 11), (life("0 0 1/3 0 0 2/3"), 27),
                               (life("1 0 0", "8/9"), 1), (life("1/2 1/2 0"), "5/2")):
            self.right(mean_square(told), expected)

    def test_none_where_not_full(self):
        for told in (EMPTY, life("1/2"), life("0 0"), life("1/3", "1/2"), life("0", "1/2"), life("1/2 0", "1/2"),
                     life("999999998/999999999"), life("1/2 1/3 0")):
            self.assertIsNone(mean(told))
            self.assertIsNone(mean_square(told))

    def test_samples(self):
        for told in SAMPLES:
            if lack(told) != 0:
                self.assertIsNone(mean(told))
                self.assertIsNone(mean_square(told))
            elif told[1] == (0, 1):
                places = range(1, len(told[0]) + 1)
                self.right(mean(told), sum(k * at(told, k) for k in places))
                self.right(mean_square(told), sum(k * k * at(told, k) for k in places))

    def test_step_agrees_with_a_long_sum(self):
        # Behind 400 beats nothing of weight is left of these: so the whole is just above the long sum.
        for told in (GEOMETRIC, life("1/3 1/9 2/9", "3/5"), life("0 1/5 1/10 7/20", "1/2"), life("1/4 0 1/4", "2/3")):
            self.assertEqual(lack(told), 0)
            for power, found in ((1, mean(told)), (2, mean_square(told))):
                near = sum(k ** power * at(told, k) for k in range(1, 400))
                gap = Fraction(*found) - near
                self.assertTrue(0 < gap < Fraction(1, 10 ** 30), (told, power))

    def test_short_or_not_does_not_matter(self):
        for told in SAMPLES:
            self.assertEqual(mean(told), mean(short(told)))
            self.assertEqual(mean_square(told), mean_square(short(told)))
            self.assertEqual(round_of(told), round_of(short(told)))


class Round(unittest.TestCase):
    def test_by_written_numbers(self):
        for told, expected in ((EMPTY, 0), (life("0"), 0), (life("0 0 0"), 0), (life("0", "1/2"), 0), (life("1"), 1),
                               (life("0 1"), 2), (life("0 1/3"), 2), (life("0 0 1/2 0 0 1/2"), 3),
                               (life("0 0 0 1/2 0 1/2"), 2), (life("0 1/2 1/2"), 1), (life("0 0 0 1"), 4),
                               (life("0 0 0 1/2", "1/2"), 1), (life("0 1/2 0", "1/2"), 2), (GEOMETRIC, 1),
                               (life("0 0 0 0 0 0 0 0 0 0 0 1"), 12), (life("0 0 0 0 0 1/2 0 0 1/2"), 3),
                               (life("0 1/4", "1/2"), 1), (life("0 1 0 0 0"), 2),
                               (life("0 0 0 0 0 1/2 0 0 0 1/2"), 2)):
            found = round_of(told)
            self.assertEqual(found, expected, told)
            self.assertIs(type(found), int)

    def test_samples(self):
        for told in SAMPLES:
            beats = [k for k in range(1, 41) if at(told, k) != 0]
            divisors = [many for many in range(1, 41) if all(k % many == 0 for k in beats)]
            self.assertEqual(round_of(told), max(divisors) if beats else 0)


if __name__ == "__main__":
    unittest.main()
