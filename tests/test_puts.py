"""[3] PUT, [16], [17], [19]."""
import unittest
from fractions import Fraction

from freshparts.making import behind
from freshparts.puts import anew, puts, puts_after
from freshparts.ratios import is_ratio

from byhand import COIN, EMPTY, GEOMETRIC, SAMPLES, at, life, number, pair, put


class Told(unittest.TestCase):
    def right(self, found, many):
        self.assertIs(type(found), tuple)
        self.assertEqual(len(found), many)
        for chance in found:
            self.assertTrue(is_ratio(chance), chance)
            self.assertIs(type(chance), tuple)
        return found


class Puts(Told):
    def test_by_written_numbers(self):
        self.assertEqual(puts(COIN, 5), ((1, 1), (1, 2), (3, 4), (5, 8), (11, 16), (21, 32)))
        self.assertEqual(puts(GEOMETRIC, 3), ((1, 1), (1, 2), (1, 2), (1, 2)))
        self.assertEqual(puts(EMPTY, 3), ((1, 1), (0, 1), (0, 1), (0, 1)))
        self.assertEqual(puts(life("1"), 3), ((1, 1),) * 4)
        self.assertEqual(puts(life("0 1"), 4), ((1, 1), (0, 1), (1, 1), (0, 1), (1, 1)))
        self.assertEqual(puts(life("1/3"), 3), ((1, 1), (1, 3), (1, 9), (1, 27)))

    def test_by_all_ways(self):
        for told in SAMPLES:
            self.assertEqual(self.right(puts(told, 10), 11), tuple(pair(put(told, n)) for n in range(11)))

    def test_by_the_told_sum_to_twenty(self):
        for told in SAMPLES:
            found = [number(chance) for chance in self.right(puts(told, 20), 21)]
            self.assertEqual(found[0], 1)
            for n in range(1, 21):
                self.assertEqual(found[n], sum(at(told, k) * found[n - k] for k in range(1, n + 1)))

    def test_each_most(self):
        for told in SAMPLES:
            long = puts(told, 20)
            self.assertEqual(puts(told, 0), ((1, 1),))
            for most in range(20):
                self.assertEqual(self.right(puts(told, most), most + 1), long[:most + 1])

    def test_told_ones_may_be_handed_in_again_however_great(self):
        great = life("1/999999937 1/999999929 1/7 1/100000007 1/123456789 1/3")
        for turn in range(2):
            great = behind(great, great)
        found = [number(chance) for chance in puts(great, 20)]
        for n in range(1, 21):
            self.assertEqual(found[n], sum(at(great, k) * found[n - k] for k in range(1, n + 1)))


class PutsAfter(Told):
    def test_by_written_numbers(self):
        self.assertEqual(puts_after(life("1"), COIN, 3), ((0, 1), (1, 1), (1, 2), (3, 4)))
        self.assertEqual(puts_after(COIN, life("1"), 3), ((0, 1), (1, 2), (1, 1), (1, 1)))
        self.assertEqual(puts_after(EMPTY, COIN, 2), ((0, 1),) * 3)
        self.assertEqual(puts_after(COIN, EMPTY, 3), ((0, 1), (1, 2), (1, 2), (0, 1)))
        self.assertEqual(puts_after(COIN, GEOMETRIC, 0), ((0, 1),))

    def test_pairs_of_samples(self):
        for first in SAMPLES:
            for told in SAMPLES:
                plain = [number(chance) for chance in puts(told, 8)]
                found = self.right(puts_after(first, told, 8), 9)
                for n in range(9):
                    total = sum((at(first, k) * plain[n - k] for k in range(1, n + 1)), Fraction(0))
                    self.assertEqual(found[n], pair(total))

    def test_first_is_the_life_itself(self):
        for told in SAMPLES:
            self.assertEqual(self.right(puts_after(told, told, 20), 21), ((0, 1),) + puts(told, 20)[1:])

    def test_each_most(self):
        first, told = life("1/5 0 1/5", "2/3"), life("0 1/4 1/4", "1/2")
        long = puts_after(first, told, 20)
        for most in range(20):
            self.assertEqual(self.right(puts_after(first, told, most), most + 1), long[:most + 1])

    def test_even_first_part(self):
        # A first part by LASTING k - 1 times one by the mean: one is put at each later beat with that share.
        self.assertEqual(puts_after(life("2/3 1/3"), COIN, 20), ((0, 1),) + ((2, 3),) * 20)


class Anew(Told):
    TOLD = ((1, 2), (-3, 7), (0, 1), (999, 1), (-999, 998), (5, 1), (-1, 1))

    def test_by_written_numbers(self):
        self.assertEqual(anew(COIN, ((1, 1), (0, 1), (0, 1))), ((1, 1), (1, 2), (3, 4)))
        self.assertEqual(anew(COIN, ((-1, 1), (2, 1))), ((-1, 1), (3, 2)))
        self.assertEqual(anew(EMPTY, ((-1, 1), (2, 3))), ((-1, 1), (2, 3)))
        self.assertEqual(anew(GEOMETRIC, ((4, 1),)), ((4, 1),))
        self.assertEqual(anew(GEOMETRIC, ((1, 1), (1, 1), (1, 1))), ((1, 1), (3, 2), (2, 1)))

    def test_none(self):
        for told in SAMPLES:
            self.assertEqual(self.right(anew(told, ()), 0), ())

    def test_none_to_twenty_one(self):
        for told in SAMPLES:
            plain = [number(chance) for chance in puts(told, 20)]
            for many in (1, 2, 7, 20, 21):
                given = (self.TOLD * 3)[:many]
                found = self.right(anew(told, given), many)
                for n in range(many):
                    self.assertEqual(found[n], pair(sum(plain[k] * number(given[n - k]) for k in range(n + 1))))
                    before = sum(at(told, k) * number(found[n - k]) for k in range(1, n + 1))
                    self.assertEqual(found[n], pair(number(given[n]) + before))

    def test_what_is_handed_in_stays_as_it_was(self):
        given = self.TOLD
        copy = tuple((top, bottom) for top, bottom in given)
        first = anew(COIN, given)
        self.assertEqual(given, copy)
        self.assertEqual(anew(COIN, given), first)

    def test_told_ones_may_be_handed_in_again(self):
        once = anew(COIN, self.TOLD * 3)
        twice = anew(COIN, once)
        plain = [number(chance) for chance in puts(COIN, 20)]
        for n in range(21):
            self.assertEqual(twice[n], pair(sum(plain[k] * number(once[n - k]) for k in range(n + 1))))


class Twice(unittest.TestCase):
    def test_the_same_is_told_twice_whatever_is_asked_between(self):
        first = [(puts(told, 9), puts_after(COIN, told, 9), anew(told, Anew.TOLD)) for told in SAMPLES]
        again = [(puts(told, 9), puts_after(COIN, told, 9), anew(told, Anew.TOLD)) for told in reversed(SAMPLES)]
        self.assertEqual(first, again[::-1])


if __name__ == "__main__":
    unittest.main()
