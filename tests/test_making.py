"""[13], [14]: LIVES made of others."""
import unittest
from fractions import Fraction

from freshparts.errors import NoAge
from freshparts.lives import is_life, short
from freshparts.making import behind, cut_at, folded, later, left_of, mixed_by
from freshparts.puts import puts

from byhand import COIN, EMPTY, GEOMETRIC, SAMPLES, at, lack, last, life, put

BOUNDED = tuple(told for told in SAMPLES if told[1] == (0, 1))
SPAN = 45


class Made(unittest.TestCase):
    def right(self, told, chance):
        """A SHORT LIFE of just these kinds with these CHANCES AT (a function of k)."""
        self.assertTrue(is_life(told), told)
        self.assertEqual(short(told), told)
        self.assertEqual([type(told), type(told[0]), type(told[1])], [tuple, tuple, tuple])
        for k in range(1, SPAN):
            self.assertEqual(at(told, k), chance(k), (told, k))


class Behind(Made):
    def test_by_written_numbers(self):
        self.assertEqual(behind(COIN, COIN), life("0 1/4 1/2 1/4"))
        self.assertEqual(behind(life("1"), life("0 1")), life("0 0 1"))
        self.assertEqual(behind(life("1/2 1/3"), life("1/5")), life("0 1/10 1/15"))
        self.assertEqual(behind(life("1/2 0"), life("1/2 0 0")), life("0 1/4"))
        self.assertEqual(behind(EMPTY, COIN), EMPTY)
        self.assertEqual(behind(COIN, EMPTY), EMPTY)
        self.assertEqual(behind(EMPTY, EMPTY), EMPTY)
        self.assertEqual(behind(life("0 0"), COIN), EMPTY)

    def test_samples(self):
        for one in BOUNDED:
            for other in BOUNDED:
                self.right(behind(one, other),
                           lambda k: sum((at(one, j) * at(other, k - j) for j in range(1, k)), Fraction(0)))

    def test_told_ones_may_be_handed_in_again(self):
        twice = behind(COIN, COIN)
        four = behind(twice, twice)
        self.assertEqual(behind(behind(twice, COIN), COIN), four)
        eight = behind(four, four)
        self.assertEqual(len(eight[0]), 16)
        self.assertEqual(at(eight, 12), Fraction(70, 256))


class Mixed(Made):
    def test_by_written_numbers(self):
        self.assertEqual(mixed_by((COIN,), ((1, 1),)), COIN)
        self.assertEqual(mixed_by((life("1"), life("0 1")), ((1, 3), (2, 3))), life("1/3 2/3"))
        self.assertEqual(mixed_by((life("1"), EMPTY), ((1, 4), (3, 4))), life("1/4"))
        self.assertEqual(mixed_by((EMPTY,), ((1, 1),)), EMPTY)
        self.assertEqual(mixed_by((EMPTY, EMPTY), ((1, 2), (1, 2))), EMPTY)
        self.assertEqual(mixed_by((life("1/2 0 0"),), ((1, 1),)), life("1/2"))

    def test_weights_of_nought(self):
        self.assertEqual(mixed_by((COIN, life("0 0 0 1")), ((1, 1), (0, 1))), COIN)
        self.assertEqual(mixed_by((COIN, life("0 0 0 1")), ((0, 1), (1, 1))), life("0 0 0 1"))
        self.assertEqual(mixed_by((EMPTY, COIN, EMPTY), ((1, 1), (0, 1), (0, 1))), EMPTY)

    def test_samples(self):
        weights = (Fraction(1, 2), Fraction(0), Fraction(1, 3), Fraction(1, 6))
        told = ((1, 2), (0, 1), (1, 3), (1, 6))
        for turn in range(len(BOUNDED)):
            lives = tuple(BOUNDED[(turn + step) % len(BOUNDED)] for step in (0, 1, 3, 4))
            self.right(mixed_by(lives, told),
                       lambda k: sum(weight * at(one, k) for weight, one in zip(weights, lives)))
            self.right(mixed_by(lives[:2], ((2, 7), (5, 7))),
                       lambda k: Fraction(2, 7) * at(lives[0], k) + Fraction(5, 7) * at(lives[1], k))


class Cut(Made):
    def test_by_written_numbers(self):
        self.assertEqual(cut_at(GEOMETRIC, 1), life("1"))
        self.assertEqual(cut_at(GEOMETRIC, 3), life("1/2 1/4 1/4"))
        self.assertEqual(cut_at(EMPTY, 1), life("1"))
        self.assertEqual(cut_at(EMPTY, 4), life("0 0 0 1"))
        self.assertEqual(cut_at(COIN, 1), life("1"))
        self.assertEqual(cut_at(COIN, 2), COIN)
        self.assertEqual(cut_at(COIN, 12), COIN)
        self.assertEqual(cut_at(life("1/3"), 12), life("1/3 0 0 0 0 0 0 0 0 0 0 2/3"))
        self.assertEqual(cut_at(life("0 0"), 2), life("0 1"))

    def test_samples(self):
        for told in SAMPLES:
            for most in range(1, 13):
                found = cut_at(told, most)

                def chance(k):
                    if k < most:
                        return at(told, k)
                    return last(told, most - 1) if k == most else 0

                self.right(found, chance)
                self.assertEqual(lack(found), 0)
                self.assertEqual(found[1], (0, 1))

    def test_puts_ahead_of_the_cut_are_as_they_were(self):
        for told in SAMPLES:
            for most in (1, 2, 5, 12):
                self.assertEqual(puts(cut_at(told, most), 20)[:most], puts(told, 20)[:most])


class Folded(Made):
    def test_by_written_numbers(self):
        self.assertEqual(folded(COIN, 1), COIN)
        self.assertEqual(folded(COIN, 2), life("0 1/2 0 1/2"))
        self.assertEqual(folded(COIN, 3), life("0 0 1/2 0 0 1/2"))
        self.assertEqual(folded(EMPTY, 3), EMPTY)
        self.assertEqual(folded(life("1/2 0 0"), 3), life("0 0 1/2"))
        self.assertEqual(folded(life("1/2 0 0"), 1), life("1/2"))
        self.assertEqual(folded(life("0 0"), 2), EMPTY)

    def test_samples(self):
        for told in BOUNDED:
            for many in (1, 2, 3):
                self.right(folded(told, many), lambda k: at(told, k // many) if k % many == 0 else 0)

    def test_puts_of_the_folded_one(self):
        for told in BOUNDED:
            plain = puts(told, 20)
            for many in (1, 2, 3):
                for n, chance in enumerate(puts(folded(told, many), 20)):
                    self.assertEqual(chance, plain[n // many] if n % many == 0 else (0, 1))


class Later(Made):
    def test_by_written_numbers(self):
        self.assertEqual(later(COIN, 0), COIN)
        self.assertEqual(later(COIN, 2), life("0 0 1/2 1/2"))
        self.assertEqual(later(GEOMETRIC, 4), life("0 0 0 0 1/2", "1/2"))
        self.assertEqual(later(EMPTY, 0), EMPTY)
        self.assertEqual(later(EMPTY, 4), EMPTY)
        self.assertEqual(later(life("1/2 1/4 1/8", "1/2"), 1), life("0 1/2", "1/2"))
        self.assertEqual(later(life("1/2 1/4 1/8", "1/2"), 0), GEOMETRIC)
        self.assertEqual(later(life("1/2 0", "1/2"), 1), life("0 1/2"))
        self.assertEqual(later(life("0", "1/2"), 3), EMPTY)

    def test_samples(self):
        for told in SAMPLES:
            for by in range(5):
                self.right(later(told, by), lambda k: at(told, k - by) if k > by else 0)


class Left(Made):
    def test_by_written_numbers(self):
        self.assertEqual(left_of(COIN, 0), COIN)
        self.assertEqual(left_of(COIN, 1), life("1"))
        self.assertEqual(left_of(life("1/2 1/4"), 1), life("1/2"))
        self.assertEqual(left_of(life("1/2 1/4"), 2), EMPTY)
        self.assertEqual(left_of(life("1/2 1/4"), 12), EMPTY)
        self.assertEqual(left_of(EMPTY, 0), EMPTY)
        self.assertEqual(left_of(EMPTY, 12), EMPTY)
        self.assertEqual(left_of(life("1/2 1/4 1/8", "1/2"), 0), GEOMETRIC)
        self.assertEqual(left_of(life("1/3", "1/2"), 1), life("1/4", "1/2"))
        self.assertEqual(left_of(life("1/2 0 1/4 1/4"), 1), life("0 1/2 1/2"))
        for age in range(13):
            self.assertEqual(left_of(GEOMETRIC, age), GEOMETRIC)

    def test_samples(self):
        for told in SAMPLES:
            for age in range(13):
                weight = last(told, age)
                if weight != 0:
                    self.right(left_of(told, age), lambda k: at(told, age + k) / weight)

    def test_an_age_that_none_comes_to_is_refused(self):
        refused = 0
        for told in SAMPLES:
            for age in range(13):
                if last(told, age) == 0:
                    refused += 1
                    with self.assertRaises(NoAge) as caught:
                        left_of(told, age)
                    self.assertIs(type(caught.exception), NoAge)
                    self.assertEqual(caught.exception.age, age)
                    self.assertIs(type(caught.exception.age), int)
        self.assertGreater(refused, 30)

    def test_refused_by_written_numbers(self):
        for told, age in ((COIN, 2), (COIN, 12), (life("1"), 1), (life("1 0 0", "1/2"), 1), (life("0 1 0"), 2)):
            with self.assertRaises(NoAge) as caught:
                left_of(told, age)
            self.assertEqual(caught.exception.age, age)
        self.assertEqual(left_of(life("0 1 0"), 1), life("1"))


class Kept(unittest.TestCase):
    def test_the_same_is_told_twice_and_a_refusal_changes_nothing(self):
        def ask():
            told = [behind(COIN, life("1/3")), mixed_by((COIN, EMPTY), ((1, 2), (1, 2))), cut_at(GEOMETRIC, 5),
                    folded(COIN, 3), later(GEOMETRIC, 2), left_of(life("1/3", "1/2"), 3)]
            with self.assertRaises(NoAge):
                left_of(COIN, 2)
            return told

        self.assertEqual(ask(), ask())

    def test_what_is_handed_in_stays_as_it_was(self):
        lives = (life("1/2 0 0"), life("1/2 1/4", "1/2"))
        weights = ((1, 2), (1, 2))
        mixed_by((lives[0], lives[0]), weights)
        behind(lives[0], lives[0])
        cut_at(lives[1], 4)
        later(lives[1], 4)
        left_of(lives[1], 4)
        folded(lives[0], 2)
        self.assertEqual(lives, (life("1/2 0 0"), life("1/2 1/4", "1/2")))
        self.assertEqual(weights, ((1, 2), (1, 2)))

    def test_checked_by_all_ways(self):
        for told in SAMPLES[:8]:
            found = cut_at(told, 3)
            self.assertEqual([put(found, n) for n in range(3)], [put(told, n) for n in range(3)])


if __name__ == "__main__":
    unittest.main()
