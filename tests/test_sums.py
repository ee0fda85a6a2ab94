"""[37]: SUM PAPERS that are told."""
import unittest
from fractions import Fraction

from freshparts.ever import even_first
from freshparts.means import mean
from freshparts.ratios import is_ratio, plus
from freshparts.sumchecker import lets_sum
from freshparts.sums import sum_paper

from byhand import COIN, FULL, GEOMETRIC, last, life, long_rows, number, pair

LIVES = FULL + tuple(long_rows())


class SumPaper(unittest.TestCase):
    def test_by_written_numbers(self):
        self.assertEqual(sum_paper(COIN, 2), (2, (3, 2), (0, 1)))
        self.assertEqual(sum_paper(COIN, 60), (60, (3, 2), (0, 1)))
        self.assertEqual(sum_paper(life("1"), 1), (1, (1, 1), (0, 1)))
        self.assertEqual(sum_paper(GEOMETRIC, 1), (1, (1, 1), (1, 1)))
        self.assertEqual(sum_paper(GEOMETRIC, 3), (3, (7, 4), (1, 4)))
        self.assertEqual(sum_paper(GEOMETRIC, 60), (60, (2 ** 60 - 1, 2 ** 59), (1, 2 ** 59)))
        self.assertEqual(sum_paper(life("1/9", "8/9"), 1), (1, (1, 1), (8, 1)))
        self.assertEqual(sum_paper(life("1 0 0", "8/9"), 3), (3, (1, 1), (0, 1)))

    def test_each_many_from_the_rows_length_to_sixty(self):
        for told in LIVES:
            for many in sorted({len(told[0]), min(60, len(told[0]) + 1), 59 if len(told[0]) < 60 else 60, 60}):
                found = sum_paper(told, many)
                total = sum((last(told, k) for k in range(many)), Fraction(0))
                self.assertEqual(found, (many, pair(total), pair(last(told, many) / (1 - number(told[1])))))
                self.assertEqual([type(part) for part in found], [int, tuple, tuple])
                self.assertIs(type(found), tuple)
                self.assertTrue(is_ratio(found[1]) and is_ratio(found[2]))
                self.assertIs(lets_sum(told, found), True)

    def test_with_the_least_missing_it_is_the_mean(self):
        for told in LIVES:
            for many in sorted({len(told[0]), 60}):
                found = sum_paper(told, many)
                self.assertEqual(plus(found[1], found[2]), mean(told))

    def test_told_lives_may_be_handed_in_again(self):
        first = even_first(even_first(life("1/7 0 2/7 0 0 4/7")))
        for many in (6, 60):
            found = sum_paper(first, many)
            self.assertIs(lets_sum(first, found), True)
            self.assertEqual(plus(found[1], found[2]), mean(first))

    def test_the_same_is_told_twice(self):
        first = [sum_paper(told, 60) for told in LIVES]
        again = [sum_paper(told, 60) for told in reversed(LIVES)]
        self.assertEqual(first, again[::-1])


if __name__ == "__main__":
    unittest.main()
