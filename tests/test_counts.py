"""[18], [20]: how many are put."""
import itertools
import unittest
from fractions import Fraction

from freshparts.counts import counts, in_all, many_by, together
from freshparts.puts import puts
from freshparts.ratios import is_ratio

from byhand import COIN, EMPTY, GEOMETRIC, SAMPLES, lack, last, life, number, pair, put, way_chance, ways


class Told(unittest.TestCase):
    def right(self, found, many):
        self.assertIs(type(found), tuple)
        self.assertEqual(len(found), many)
        self.assertTrue(all(is_ratio(chance) for chance in found), found)
        return found


class Counts(Told):
    def test_by_written_numbers(self):
        self.assertEqual(counts(COIN, 0), ((1, 1),))
        self.assertEqual(counts(COIN, 1), ((1, 2), (1, 2)))
        self.assertEqual(counts(COIN, 2), ((0, 1), (3, 4), (1, 4)))
        self.assertEqual(counts(GEOMETRIC, 2), ((1, 4), (1, 2), (1, 4)))
        self.assertEqual(counts(EMPTY, 3), ((1, 1), (0, 1), (0, 1), (0, 1)))
        self.assertEqual(counts(life("1"), 3), ((0, 1), (0, 1), (0, 1), (1, 1)))
        self.assertEqual(counts(life("1/3"), 2), ((2, 3), (2, 9), (1, 9)))

    def test_by_all_ways(self):
        for told in SAMPLES:
            for beat in range(9):
                expected = [Fraction(0)] * (beat + 1)
                for end in range(beat + 1):
                    for way in ways(end):
                        expected[len(way)] += way_chance(told, way) * last(told, beat - end)
                self.assertEqual(self.right(counts(told, beat), beat + 1), tuple(pair(chance) for chance in expected))

    def test_to_twenty_they_are_one_and_their_mean_is_many(self):
        for told in SAMPLES:
            for beat in (12, 20):
                found = [number(chance) for chance in self.right(counts(told, beat), beat + 1)]
                self.assertEqual(sum(found), 1)
                self.assertEqual(pair(sum(j * chance for j, chance in enumerate(found))), many_by(told, beat))
                self.assertTrue(all(chance >= 0 for chance in found))

    def test_coin_by_beat_twenty(self):
        # GEOMETRIC: at each beat one is put or not, by a fair coin.
        row = [1]
        for turn in range(20):
            row = [one + other for one, other in zip([0] + row, row + [0])]
        self.assertEqual(counts(GEOMETRIC, 20), tuple(pair(Fraction(many, 2 ** 20)) for many in row))


class Many(unittest.TestCase):
    def test_by_written_numbers(self):
        for told, beat, expected in ((COIN, 0, (0, 1)), (COIN, 1, (1, 2)), (COIN, 2, (5, 4)), (COIN, 3, (15, 8)),
                                     (GEOMETRIC, 20, (10, 1)), (EMPTY, 20, (0, 1)), (life("1"), 20, (20, 1)),
                                     (life("1/3"), 2, (4, 9))):
            self.assertEqual(many_by(told, beat), expected)
            self.assertIs(type(many_by(told, beat)), tuple)

    def test_samples(self):
        for told in SAMPLES:
            plain = [number(chance) for chance in puts(told, 20)]
            for beat in range(21):
                found = many_by(told, beat)
                self.assertTrue(is_ratio(found))
                self.assertEqual(found, pair(sum(plain[1:beat + 1], Fraction(0))))


class InAll(unittest.TestCase):
    def test_by_written_numbers(self):
        for told, expected in ((EMPTY, (0, 1)), (life("0 0"), (0, 1)), (life("0", "1/2"), (0, 1)),
                               (life("1/2"), (1, 1)), (life("1/2 1/4"), (3, 1)), (life("1/3", "1/2"), (2, 1)),
                               (life("1/3"), (1, 2)), (life("999999998/999999999"), (999999998, 1))):
            self.assertEqual(in_all(told), expected)

    def test_none_of_a_full_one(self):
        for told in (COIN, GEOMETRIC, life("1"), life("1/2 1/4 1/8", "1/2"), life("1 0", "1/2"), life("1/9", "8/9")):
            self.assertIsNone(in_all(told))

    def test_samples(self):
        for told in SAMPLES:
            if lack(told) == 0:
                self.assertIsNone(in_all(told))
            else:
                found = in_all(told)
                self.assertTrue(is_ratio(found))
                self.assertEqual(found, pair((1 - lack(told)) / lack(told)))


class Together(Told):
    def test_no_life(self):
        for beat in (0, 1, 20):
            self.assertEqual(self.right(together((), beat), 1), ((1, 1),))

    def test_by_written_numbers(self):
        self.assertEqual(together((COIN,), 1), ((1, 2), (1, 2)))
        self.assertEqual(together((COIN, COIN), 2), ((1, 16), (3, 8), (9, 16)))
        self.assertEqual(together((COIN, EMPTY), 2), ((1, 4), (3, 4), (0, 1)))
        self.assertEqual(together((COIN, life("1/3")), 1), ((1, 3), (1, 2), (1, 6)))
        self.assertEqual(together((GEOMETRIC,) * 4, 20), ((1, 16), (1, 4), (3, 8), (1, 4), (1, 16)))
        self.assertEqual(together((life("1"), EMPTY, life("0 1"), COIN), 3),
                         ((0, 1), (3, 8), (5, 8), (0, 1), (0, 1)))

    def test_at_beat_nought_all_have_one(self):
        for many in range(5):
            found = together(SAMPLES[:many], 0)
            self.assertEqual(self.right(found, many + 1), ((0, 1),) * many + ((1, 1),))

    def test_samples(self):
        for turn in range(len(SAMPLES)):
            chosen = tuple(SAMPLES[(turn + step) % len(SAMPLES)] for step in (0, 1, 4, 1))
            for many in range(5):
                for beat in (1, 5, 8):
                    expected = [Fraction(0)] * (many + 1)
                    chances = [put(told, beat) for told in chosen[:many]]
                    for marks in itertools.product((False, True), repeat=many):
                        weight = Fraction(1)
                        for mark, chance in zip(marks, chances):
                            weight *= chance if mark else 1 - chance
                        expected[sum(marks)] += weight
                    found = self.right(together(chosen[:many], beat), many + 1)
                    self.assertEqual(found, tuple(pair(chance) for chance in expected))

    def test_their_order_does_not_matter_and_the_same_is_told_twice(self):
        chosen = (COIN, life("1/3", "1/2"), life("0 1"), COIN)
        first = together(chosen, 7)
        for order in itertools.permutations(chosen):
            self.assertEqual(together(order, 7), first)
        self.assertEqual(chosen, (COIN, life("1/3", "1/2"), life("0 1"), COIN))


if __name__ == "__main__":
    unittest.main()
