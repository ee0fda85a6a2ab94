"""[41], [42], and what [5] says of gains."""
import copy
import unittest
from fractions import Fraction

from freshparts.counts import many_by
from freshparts.ever import share
from freshparts.gains import begun, gain_a_beat, gains
from freshparts.means import mean
from freshparts.puts import puts
from freshparts.standing import mean_left

from byhand import BOUNDED_FULL, COIN, at, life, number, pair, way_chance, ways
from telling import Told

LIVES = BOUNDED_FULL + (life("1 0 0 0"), life("0 1/3 0 2/3 0 0"), life("0 0 1/4 0 0 3/4"), life("1/3 1/3 1/3"))
KEEPS = (Fraction(0), Fraction(-2), Fraction(7, 3), Fraction(-999, 998))


def price_rows(told):
    """PRICES below nought, nought, RATIOS."""
    many = len(told[0])
    rows = ([Fraction(0)] * many, [Fraction(1)] * many, [Fraction(k + 1) for k in range(many)],
            [Fraction((-1) ** k * (3 * k + 1), k + 2) for k in range(many)], [Fraction(-999, 998)] * many)
    return [tuple(pair(price) for price in row) for row in rows]


def by_ways(told, prices, keep, beat):
    """GAINS at the beat: all WAYS to any beat up to it that no part ENDS behind, one by one."""
    total = Fraction(0)
    for end in range(beat + 1):
        stays = 1 - sum((at(told, k) for k in range(1, beat - end + 1)), Fraction(0))
        for way in ways(end):
            chance = way_chance(told, way) * stays
            if chance:
                total += chance * sum(number(prices[k - 1]) for k in way)
    return total + keep * beat


def by_sums(told, prices, keep, most):
    put = [number(one) for one in puts(told, most)]
    found = [Fraction(0)]
    for n in range(1, most + 1):
        ended = sum(at(told, k) * number(prices[k - 1]) * put[n - k] for k in range(1, min(n, len(prices)) + 1))
        found.append(found[-1] + ended + keep)
    return found


def mean_price(told, prices):
    return sum((number(chance) * number(price) for chance, price in zip(told[0], prices)), Fraction(0))


class Gains(Told):
    def test_by_written_numbers(self):
        prices = ((1, 1), (-3, 1))
        self.assertEqual(gains(COIN, prices, (0, 1), 3), ((0, 1), (1, 2), (-3, 4), (-9, 8)))
        self.assertEqual(gains(COIN, prices, (1, 3), 3), ((0, 1), (5, 6), (-1, 12), (-1, 8)))
        self.assertEqual(gains(COIN, prices, (5, 1), 0), ((0, 1),))
        self.assertEqual(gains(life("1"), ((2, 1),), (-2, 1), 4), ((0, 1),) * 5)
        self.assertEqual(gains(life("0 1"), ((9, 1), (4, 1)), (0, 1), 5),
                         ((0, 1), (0, 1), (4, 1), (4, 1), (8, 1), (8, 1)))

    def test_by_all_ways_one_by_one(self):
        for told in LIVES:
            for prices in price_rows(told):
                for keep in KEEPS[:3]:
                    expected = [by_ways(told, prices, keep, beat) for beat in range(8)]
                    self.right(gains(told, prices, pair(keep), 7), expected)

    def test_by_sums_to_each_most(self):
        for told in LIVES:
            for prices in price_rows(told):
                for keep in KEEPS:
                    expected = by_sums(told, prices, keep, 20)
                    for most in (0, 1, 5, 20):
                        self.right(gains(told, prices, pair(keep), most), expected[:most + 1])

    def test_prices_of_one_count_what_was_put(self):
        for told in LIVES:
            found = gains(told, ((1, 1),) * len(told[0]), (0, 1), 20)
            self.assertEqual(found, tuple(many_by(told, beat) for beat in range(21)))

    def test_with_the_mean_of_what_is_left(self):
        # Prices by length: what has ended came to the beat less the AGE of what stands, in the mean.
        for told in LIVES:
            prices = tuple((k, 1) for k in range(1, len(told[0]) + 1))
            for beat, found in enumerate(begun(told, prices, 20)):
                self.one(found, beat + number(mean_left(told, beat)))


class Begun(Told):
    def test_by_written_numbers(self):
        prices = ((1, 1), (-3, 1))
        self.assertEqual(begun(COIN, prices, 3), ((-1, 1), (-3, 2), (-9, 4), (-23, 8)))
        self.assertEqual(begun(COIN, prices, 0), ((-1, 1),))
        self.assertEqual(begun(life("0 1"), ((9, 1), (4, 1)), 3), ((4, 1), (4, 1), (8, 1), (8, 1)))

    def test_the_mean_of_a_price_times_one_and_many(self):
        for told in LIVES:
            for prices in price_rows(told):
                price = mean_price(told, prices)
                expected = [price * (1 + number(many_by(told, beat))) for beat in range(21)]
                for most in (0, 1, 7, 20):
                    self.right(begun(told, prices, most), expected[:most + 1])

    def test_by_all_ways_one_by_one(self):
        for told in LIVES:
            for prices in price_rows(told):
                price = mean_price(told, prices)
                began = [sum((way_chance(told, way) for way in ways(beat)), Fraction(0)) for beat in range(8)]
                expected = [price * sum(began[:beat + 1]) for beat in range(8)]
                self.right(begun(told, prices, 7), expected)


class ABeat(Told):
    def test_by_written_numbers(self):
        self.assertEqual(gain_a_beat(COIN, ((1, 1), (-3, 1)), (0, 1)), (-2, 3))
        self.assertEqual(gain_a_beat(COIN, ((1, 1), (-3, 1)), (1, 3)), (-1, 3))
        self.assertEqual(gain_a_beat(life("1"), ((2, 1),), (-2, 1)), (0, 1))
        self.assertEqual(gain_a_beat(life("0 1 0"), ((9, 1), (4, 1), (7, 1)), (1, 2)), (5, 2))

    def test_price_by_mean_and_keep(self):
        for told in LIVES:
            for prices in price_rows(told):
                for keep in KEEPS:
                    expected = mean_price(told, prices) / number(mean(told)) + keep
                    self.one(gain_a_beat(told, prices, pair(keep)), expected)

    def test_prices_by_length_gain_one_a_beat(self):
        for told in LIVES:
            prices = tuple((k, 1) for k in range(1, len(told[0]) + 1))
            self.assertEqual(gain_a_beat(told, prices, (0, 1)), (1, 1))
            self.assertEqual(gain_a_beat(told, ((1, 1),) * len(told[0]), (0, 1)), share(told))

    def test_gains_of_many_beats_come_to_it(self):
        for told in LIVES:
            prices = price_rows(told)[3]
            most = 240
            found = number(gains(told, prices, (1, 3), most)[most])
            self.assertLess(abs(found / most - number(gain_a_beat(told, prices, (1, 3)))), Fraction(1, 8))

    def test_what_is_handed_in_stays_and_the_same_is_told_twice(self):
        prices = [price_rows(told) for told in LIVES]
        copies = copy.deepcopy((LIVES, prices))

        def asked():
            return [(gains(told, row, (1, 3), 20), begun(told, row, 20), gain_a_beat(told, row, (1, 3)))
                    for told, rows in zip(LIVES, prices) for row in rows]

        self.assertEqual(asked(), asked())
        self.assertEqual((LIVES, prices), copies)


if __name__ == "__main__":
    unittest.main()
