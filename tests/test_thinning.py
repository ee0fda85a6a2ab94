"""[15]: THINNED."""
import unittest
from fractions import Fraction

from freshparts.puts import puts
from freshparts.ratios import is_ratio
from freshparts.thinning import thinned

from byhand import COIN, EMPTY, GEOMETRIC, SAMPLES, at, life, number, pair, put, way_chance, ways

SHARES = ((0, 1), (1, 1), (1, 2), (1, 3), (997, 999))


def first_kept(told, share, beat):
    """By all WAYS to the beat: all parts put ahead of it are lost, the one at it is kept."""
    return sum((way_chance(told, way) * (1 - share) ** (len(way) - 1) * share for way in ways(beat)), Fraction(0))


class Thinned(unittest.TestCase):
    def check(self, told, share, most):
        found = thinned(told, share, most)
        self.assertIs(type(found), tuple)
        self.assertEqual(len(found), most)
        self.assertTrue(all(is_ratio(chance) for chance in found))
        return found

    def test_by_all_ways(self):
        for told in SAMPLES:
            for share in SHARES:
                found = self.check(told, share, 8)
                self.assertEqual(found, tuple(pair(first_kept(told, number(share), k)) for k in range(1, 9)))

    def test_by_written_numbers(self):
        self.assertEqual(thinned(COIN, (1, 2), 3), ((1, 4), (5, 16), (9, 64)))
        self.assertEqual(thinned(GEOMETRIC, (1, 2), 3), ((1, 4), (3, 16), (9, 64)))
        self.assertEqual(thinned(EMPTY, (1, 2), 2), ((0, 1), (0, 1)))

    def test_share_of_nought_and_of_one(self):
        for told in SAMPLES:
            self.assertEqual(self.check(told, (0, 1), 20), ((0, 1),) * 20)
            self.assertEqual(self.check(told, (1, 1), 20), tuple(pair(at(told, k)) for k in range(1, 21)))

    def test_most_of_nought(self):
        for told in SAMPLES:
            for share in SHARES:
                self.assertEqual(self.check(told, share, 0), ())

    def test_puts_by_these_are_share_times_put(self):
        for told in SAMPLES:
            plain = puts(told, 20)
            for share in SHARES:
                chances = [number(chance) for chance in self.check(told, share, 20)]
                found = [Fraction(1)]
                for n in range(1, 21):
                    found.append(sum(chances[k - 1] * found[n - k] for k in range(1, n + 1)))
                    self.assertEqual(found[n], number(share) * number(plain[n]))

    def test_shorter_most_is_the_beginning_of_a_longer_one(self):
        for told in SAMPLES:
            long = thinned(told, (2, 5), 20)
            for most in range(20):
                self.assertEqual(thinned(told, (2, 5), most), long[:most])

    def test_by_the_told_sum_to_twenty(self):
        told, share = life("1/7 0 2/7", "1/3"), Fraction(3, 8)
        found = [number(chance) for chance in thinned(told, (3, 8), 20)]
        for k in range(1, 21):
            later = sum((1 - share) * at(told, j) * found[k - j - 1] for j in range(1, k))
            self.assertEqual(found[k - 1], share * at(told, k) + later)
        self.assertEqual(put(told, 1), Fraction(1, 7))


if __name__ == "__main__":
    unittest.main()
