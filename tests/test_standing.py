"""[3] AGE, LEFT, STRETCH, [30], [31], [32], and what [5] says of what STANDS and of the next one PUT."""
import unittest
from fractions import Fraction

from freshparts.counts import many_by
from freshparts.making import behind, left_of
from freshparts.means import mean
from freshparts.puts import puts
from freshparts.standing import age_and_left, ages, lefts, mean_left, stays, stretches

from byhand import COIN, EMPTY, FULL, GEOMETRIC, SAMPLES, at, lack, last, life, middle, number, pair, way_chance, ways
from telling import Told

ALL = SAMPLES + FULL[len(FULL) - 12:]


def parts(told, beat):
    """By all WAYS to the beat and ahead of it: the pairs (age, chance) that the last part was PUT age beats ago."""
    for end in range(beat + 1):
        for way in ways(end):
            yield beat - end, way_chance(told, way)


class Ages(Told):
    def test_by_written_numbers(self):
        self.right(ages(COIN, 0), [1])
        self.right(ages(COIN, 1), ["1/2", "1/2"])
        self.right(ages(COIN, 2), ["3/4", "1/4", 0])
        self.right(ages(EMPTY, 3), [0, 0, 0, 1])
        self.right(ages(GEOMETRIC, 3), ["1/2", "1/4", "1/8", "1/8"])
        self.right(ages(life("0 1"), 3), [0, 1, 0, 0])
        self.right(ages(life("1/3"), 1), ["1/3", "2/3"])

    def test_by_all_ways(self):
        for told in ALL:
            for beat in range(9):
                expected = [Fraction(0)] * (beat + 1)
                for age, chance in parts(told, beat):
                    expected[age] += chance * last(told, age)
                self.right(ages(told, beat), expected)

    def test_at_beat_twenty(self):
        for told in ALL:
            plain = [number(chance) for chance in puts(told, 20)]
            self.right(ages(told, 20), [plain[20 - age] * last(told, age) for age in range(21)])
            self.assertEqual(sum(number(chance) for chance in ages(told, 20)), 1)


class Lefts(Told):
    def test_by_written_numbers(self):
        self.right(lefts(COIN, 0, 3), ["1/2", "1/2", 0])
        self.right(lefts(COIN, 1, 2), ["3/4", "1/4"])
        self.right(lefts(GEOMETRIC, 20, 3), ["1/2", "1/4", "1/8"])
        self.right(lefts(EMPTY, 7, 2), [0, 0])
        self.right(lefts(life("0 1"), 1, 3), [1, 0, 0])
        self.right(lefts(life("0 1"), 2, 3), [0, 1, 0])

    def test_by_all_ways(self):
        for told in ALL:
            for beat in range(7):
                expected = [Fraction(0)] * 12
                for age, chance in parts(told, beat):
                    for left in range(1, 13):
                        expected[left - 1] += chance * at(told, age + left)
                self.right(lefts(told, beat, 12), expected)

    def test_at_beat_twenty_and_left_twenty(self):
        for told in ALL:
            for beat in (0, 8, 20):
                plain = [number(chance) for chance in puts(told, beat)]
                self.right(lefts(told, beat, 20), [
                    sum(plain[beat - age] * at(told, age + left) for age in range(beat + 1))
                    for left in range(1, 21)])

    def test_each_most(self):
        for told in ALL:
            long = lefts(told, 5, 20)
            for most in range(20):
                self.assertEqual(lefts(told, 5, most), long[:most])
            self.right(lefts(told, 0, 0), [])
            self.right(lefts(told, 20, 0), [])

    def test_at_beat_nought_it_is_the_life_itself(self):
        for told in ALL:
            self.right(lefts(told, 0, 20), [at(told, k) for k in range(1, 21)])

    def test_left_of_one_is_put_at_the_next_beat(self):
        for told in ALL:
            for beat in range(20):
                self.assertEqual(lefts(told, beat, 1)[0], puts(told, beat + 1)[beat + 1])


class Stretches(Told):
    def test_by_written_numbers(self):
        self.right(stretches(COIN, 0, 3), ["1/2", "1/2", 0])
        self.right(stretches(COIN, 1, 3), ["1/4", "3/4", 0])
        self.right(stretches(COIN, 2, 2), ["3/8", "5/8"])
        self.right(stretches(EMPTY, 9, 2), [0, 0])
        self.right(stretches(life("0 0 1"), 20, 4), [0, 0, 1, 0])
        self.right(stretches(GEOMETRIC, 20, 3), ["1/4", "1/4", "3/16"])

    def test_by_all_ways(self):
        for told in ALL:
            for beat in range(7):
                expected = [Fraction(0)] * 12
                for age, chance in parts(told, beat):
                    for k in range(age + 1, 13):
                        expected[k - 1] += chance * at(told, k)
                self.right(stretches(told, beat, 12), expected)

    def test_by_the_puts_of_the_last_beats(self):
        for told in ALL:
            for beat in (0, 1, 8, 19, 20):
                plain = [number(chance) for chance in puts(told, beat)]
                self.right(stretches(told, beat, 20), [
                    at(told, k) * sum(plain[n] for n in range(beat + 1) if beat - k < n <= beat)
                    for k in range(1, 21)])

    def test_each_most(self):
        for told in ALL:
            long = stretches(told, 5, 20)
            for most in range(20):
                self.assertEqual(stretches(told, 5, most), long[:most])
            self.right(stretches(told, 0, 0), [])
            self.right(stretches(told, 20, 0), [])


class Stays(Told):
    def test_by_written_numbers(self):
        self.one(stays(COIN, 20), 0)
        self.one(stays(GEOMETRIC, 20), 0)
        self.one(stays(EMPTY, 0), 1)
        self.one(stays(EMPTY, 20), 1)
        self.one(stays(life("1/2"), 0), "1/2")
        self.one(stays(life("1/2"), 1), "3/4")
        self.one(stays(life("1/2"), 20), Fraction(2 ** 21 - 1, 2 ** 21))
        self.one(stays(life("1/3", "1/2"), 1), "4/9")

    def test_by_all_ways(self):
        for told in ALL:
            for beat in range(9):
                self.one(stays(told, beat), sum(chance * lack(told) for age, chance in parts(told, beat)))

    def test_with_the_stretches_it_is_one(self):
        for told in ALL:
            if told[1] == (0, 1):
                for beat in range(21):
                    met = sum(number(chance) for chance in stretches(told, beat, 20))
                    waits = sum(number(chance) for chance in lefts(told, beat, 20))
                    self.assertEqual(met + number(stays(told, beat)), 1)
                    self.assertEqual(waits + number(stays(told, beat)), 1)


class AgeAndLeft(Told):
    def test_by_written_numbers(self):
        self.one(age_and_left(COIN, 0, 0, 1), "1/2")
        self.one(age_and_left(COIN, 2, 1, 1), "1/4")
        self.one(age_and_left(COIN, 2, 0, 2), "3/8")
        self.one(age_and_left(COIN, 2, 1, 2), 0)
        self.one(age_and_left(GEOMETRIC, 20, 20, 20), Fraction(1, 2 ** 40))
        self.one(age_and_left(GEOMETRIC, 20, 0, 20), Fraction(1, 2 ** 21))
        self.one(age_and_left(EMPTY, 3, 3, 1), 0)

    def test_an_age_above_the_beat(self):
        for told in ALL:
            for beat, age in ((0, 1), (0, 20), (5, 6), (8, 9), (19, 20)):
                for left in (1, 2, 20):
                    self.one(age_and_left(told, beat, age, left), 0)

    def test_by_all_ways(self):
        for told in ALL:
            for beat in range(6):
                for age in range(beat + 2):
                    for left in (1, 2, 3, 7, 20):
                        total = sum(chance for old, chance in parts(told, beat) if old == age)
                        self.one(age_and_left(told, beat, age, left), total * at(told, age + left))

    def test_they_make_up_the_others(self):
        for told in ALL:
            for beat in (4, 20):
                grid = [[number(age_and_left(told, beat, age, left)) for left in range(1, 21)]
                        for age in range(beat + 1)]
                self.right(lefts(told, beat, 20), [sum(row[left] for row in grid) for left in range(20)])
                self.right(stretches(told, beat, 20), [
                    sum(grid[age][k - age - 1] for age in range(beat + 1) if age < k) for k in range(1, 21)])
                if told[1] == (0, 1) and lack(told) == 0:
                    self.right(ages(told, beat), [sum(row) for row in grid])

    def test_left_of_what_stands_is_left_of_its_age(self):
        for told in (COIN, GEOMETRIC, life("0 1/4 1/4", "1/2"), life("1/2 0 1/4", "1/2")):
            for age in range(8):
                old = number(ages(told, 8)[age])
                if old != 0:
                    rest = left_of(told, age)
                    for left in range(1, 6):
                        self.one(age_and_left(told, 8, age, left), old * at(rest, left))


class MeanLeft(Told):
    def test_by_written_numbers(self):
        self.one(mean_left(COIN, 0), "3/2")
        self.one(mean_left(COIN, 1), "5/4")
        self.one(mean_left(life("1"), 20), 1)
        self.one(mean_left(life("0 1"), 0), 2)
        self.one(mean_left(life("0 1"), 1), 1)
        self.one(mean_left(life("0 1"), 20), 2)
        for beat in range(21):
            self.one(mean_left(GEOMETRIC, beat), 2)

    def test_none_where_not_full(self):
        found = 0
        for told in SAMPLES:
            if lack(told) != 0:
                found += 1
                for beat in (0, 1, 20):
                    self.assertIsNone(mean_left(told, beat))
        self.assertGreater(found, 8)
        self.assertIsNone(mean_left(EMPTY, 0))
        self.assertIsNone(mean_left(life("999999998/999999999"), 20))

    def test_by_all_lefts(self):
        for told in FULL:
            if told[1] == (0, 1):
                for beat in (0, 1, 5, 19, 20):
                    chances = lefts(told, beat, len(told[0]))
                    total = sum(left * number(chance) for left, chance in enumerate(chances, start=1))
                    self.one(mean_left(told, beat), total)

    def test_by_the_age(self):
        # Of AGE a the mean of what is LEFT, times its chance, is PUT beat - a times LASTING a and on, added.
        for told in FULL:
            for beat in (0, 1, 2, 7, 20):
                plain = [number(chance) for chance in puts(told, beat)]
                total = Fraction(0)
                for age in range(beat + 1):
                    total += plain[beat - age] * (middle(told) - sum(last(told, k) for k in range(age)))
                self.one(mean_left(told, beat), total)

    def test_the_mean_of_the_beat_at_which_the_next_one_is_put(self):
        for told in FULL:
            for beat in range(21):
                self.one(mean_left(told, beat),
                         number(mean(told)) * (1 + number(many_by(told, beat))) - beat)


class Kept(unittest.TestCase):
    def test_the_same_is_told_twice_whatever_is_asked_between(self):
        def ask(told):
            return (ages(told, 9), lefts(told, 9, 9), stretches(told, 9, 9), stays(told, 9),
                    age_and_left(told, 9, 3, 2), mean_left(told, 9))

        first = [ask(told) for told in ALL]
        again = [ask(told) for told in reversed(ALL)]
        self.assertEqual(first, again[::-1])

    def test_short_or_not_does_not_matter(self):
        for one, other in ((COIN, life("1/2 1/2 0 0")), (GEOMETRIC, life("1/2 1/4 1/8 1/16", "1/2")),
                           (EMPTY, life("0 0 0")), (EMPTY, life("0", "1/2")), (life("1"), life("1 0", "1/2"))):
            for beat in (0, 3, 20):
                self.assertEqual(ages(one, beat), ages(other, beat))
                self.assertEqual(lefts(one, beat, 20), lefts(other, beat, 20))
                self.assertEqual(stretches(one, beat, 20), stretches(other, beat, 20))
                self.assertEqual(stays(one, beat), stays(other, beat))
                self.assertEqual(mean_left(one, beat), mean_left(other, beat))
                self.assertEqual(age_and_left(one, beat, 1, 1), age_and_left(other, beat, 1, 1))

    def test_told_lives_may_be_handed_in_again(self):
        great = behind(behind(COIN, life("1/999999937 1/7")), life("1/3 1/3 1/3"))
        plain = [number(chance) for chance in puts(great, 20)]
        self.assertEqual(ages(great, 20), tuple(pair(plain[20 - age] * last(great, age)) for age in range(21)))
        self.assertEqual(stays(great, 20), pair(lack(great) * sum(plain)))


if __name__ == "__main__":
    unittest.main()
