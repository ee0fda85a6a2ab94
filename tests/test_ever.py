"""[33], [34], [35], and what [5] says of the SHARE, the even first LIFE, the ROUND and long STRETCHES."""
import unittest
from fractions import Fraction

from freshparts.ever import even_first, ever_ages, ever_ages_by, ever_lefts, ever_put, ever_stretches, share
from freshparts.lives import is_life, short
from freshparts.making import behind, cut_at, folded
from freshparts.puts import puts, puts_after
from freshparts.ratios import is_ratio
from freshparts.standing import ages, lefts, stretches

from byhand import (BOUNDED_FULL, COIN, EMPTY, FULL, GEOMETRIC, SAMPLES, at, beats_between, lack, last, life, middle,
                    number)
from telling import Told


class Share(Told):
    def test_by_written_numbers(self):
        for told, expected in ((COIN, "2/3"), (GEOMETRIC, "1/2"), (life("1"), 1), (life("0 1"), "1/2"),
                               (life("0 0 1/3 0 0 2/3"), "1/5"), (life("1/9", "8/9"), "1/9"),
                               (life("1 0 0", "8/9"), 1), (life("1/2 1/4", "1/2"), "1/2"),
                               (life("1/2 1/2 0 0"), "2/3"), (life("0 1/2", "1/2"), "1/3")):
            self.one(share(told), expected)

    def test_nought_where_not_full(self):
        for told in (EMPTY, life("1/2"), life("0 0"), life("0", "1/2"), life("1/3", "1/2"), life("1/2 1/3 0"),
                     life("999999998/999999999"), life("1/2 0", "1/2")):
            self.one(share(told), 0)

    def test_samples(self):
        for told in SAMPLES:
            self.one(share(told), 0 if lack(told) != 0 else 1 / middle(told))
        for told in FULL:
            self.one(share(told), 1 / middle(told))

    def test_puts_of_many_beats_come_to_it_in_the_mean(self):
        for told in (COIN, GEOMETRIC, life("0 1"), life("0 0 1/3 0 0 2/3"), life("0 1/4 1/4", "1/2"), life("1/3"),
                     EMPTY, life("1/3", "1/2")):
            plain = puts(told, 120)[1:]
            meant = sum(number(chance) for chance in plain) / 120
            self.assertLess(abs(meant - number(share(told))), Fraction(1, 30))


class EverPut(Told):
    def test_by_written_numbers(self):
        self.one(ever_put(COIN, 0), "2/3")
        self.one(ever_put(GEOMETRIC, 0), "1/2")
        self.one(ever_put(life("0 1"), 0), 1)
        self.one(ever_put(life("0 1"), 1), 0)
        self.one(ever_put(life("0 0 1/3 0 0 2/3"), 0), "3/5")
        self.one(ever_put(life("0 0 1/3 0 0 2/3"), 1), 0)
        self.one(ever_put(life("0 0 1/3 0 0 2/3"), 2), 0)
        self.one(ever_put(life("0 0 0 0 0 0 0 0 0 0 0 1"), 0), 1)
        self.one(ever_put(life("0 0 0 1/2 0 1/2"), 0), "2/5")
        self.one(ever_put(life("0 1/2 0 1/2 0"), 0), "2/3")
        self.one(ever_put(life("0 1/2 0 1/2 0"), 1), 0)

    def test_each_rest(self):
        rounds = set()
        for told in FULL:
            beats = beats_between(told)
            rounds.add(beats)
            self.one(ever_put(told, 0), beats / middle(told))
            for rest in range(1, beats):
                self.one(ever_put(told, rest), 0)
        self.assertTrue({1, 2, 3, 4, 12} <= rounds)

    def test_puts_come_to_it(self):
        for told in (COIN, GEOMETRIC, folded(COIN, 2), folded(COIN, 3), life("0 0 0 1/2 0 1/2"),
                     life("0 1/2 1/4", "1/2"), life("1/3 1/9 2/9", "3/5"), life("1/6 1/6 1/6 1/6 1/6 1/6")):
            beats = beats_between(told)
            plain = puts(told, 90 + beats)
            for n in range(90, 90 + beats):
                gap = abs(number(plain[n]) - number(ever_put(told, n % beats)))
                self.assertLess(gap, Fraction(1, 10 ** 6), (told, n))

    def test_they_come_to_one_number_just_where_the_round_is_one(self):
        for told in FULL:
            numbers = {ever_put(told, rest) for rest in range(beats_between(told))}
            self.assertEqual(len(numbers) == 1, beats_between(told) == 1)
            if len(numbers) == 1:
                self.assertEqual(numbers, {share(told)})


class ForEver(Told):
    def test_ages_by_written_numbers(self):
        self.right(ever_ages(COIN, 1), ["2/3"])
        self.right(ever_ages(COIN, 4), ["2/3", "1/3", 0, 0])
        self.right(ever_ages(GEOMETRIC, 3), ["1/2", "1/4", "1/8"])
        self.right(ever_ages(life("0 1"), 3), ["1/2", "1/2", 0])

    def test_lefts_by_written_numbers(self):
        self.right(ever_lefts(COIN, 1), ["2/3"])
        self.right(ever_lefts(COIN, 3), ["2/3", "1/3", 0])
        self.right(ever_lefts(GEOMETRIC, 3), ["1/2", "1/4", "1/8"])

    def test_stretches_by_written_numbers(self):
        self.right(ever_stretches(COIN, 1), ["1/3"])
        self.right(ever_stretches(COIN, 3), ["1/3", "2/3", 0])
        self.right(ever_stretches(GEOMETRIC, 4), ["1/4", "1/4", "3/16", "1/8"])
        self.right(ever_stretches(life("0 0 1/3 0 0 2/3"), 6), [0, 0, "1/5", 0, 0, "4/5"])

    def test_all_full_ones(self):
        for told in FULL:
            for most in range(1, 13):
                self.right(ever_ages(told, most), [last(told, age) / middle(told) for age in range(most)])
                self.right(ever_lefts(told, most), [last(told, left - 1) / middle(told) for left in range(1, most + 1)])
                self.right(ever_stretches(told, most), [k * at(told, k) / middle(told) for k in range(1, most + 1)])

    def test_of_bounded_ones_they_are_one_together(self):
        for told in BOUNDED_FULL:
            for found in (ever_ages(told, 12), ever_lefts(told, 12), ever_stretches(told, 12)):
                self.assertEqual(sum(number(chance) for chance in found), 1)

    def test_what_stands_comes_to_them(self):
        for told in (COIN, GEOMETRIC, life("0 1/2 1/4", "1/2"), life("1/6 1/6 1/6 1/6 1/6 1/6")):
            near = Fraction(1, 10 ** 6)
            for found, later in ((ever_ages(told, 12), ages(told, 150)), (ever_lefts(told, 12), lefts(told, 150, 12)),
                                 (ever_stretches(told, 12), stretches(told, 150, 12))):
                for chance, other in zip(found, later):
                    self.assertLess(abs(number(chance) - number(other)), near)

    def test_long_stretches_are_met_by_their_length(self):
        for told in FULL:
            met = [number(chance) for chance in ever_stretches(told, 12)]
            for k in range(1, 13):
                for j in range(1, 13):
                    self.assertEqual(met[k - 1] * j * at(told, j), met[j - 1] * k * at(told, k))


class ByRest(Told):
    def test_by_written_numbers(self):
        self.right(ever_ages_by(COIN, 0, 3), ["2/3", "1/3", 0])
        self.right(ever_ages_by(life("0 1"), 0, 3), [1, 0, 0])
        self.right(ever_ages_by(life("0 1"), 1, 3), [0, 1, 0])
        triple = life("0 0 1/3 0 0 2/3")
        self.right(ever_ages_by(triple, 0, 7), ["3/5", 0, 0, "2/5", 0, 0, 0])
        self.right(ever_ages_by(triple, 1, 7), [0, "3/5", 0, 0, "2/5", 0, 0])
        self.right(ever_ages_by(triple, 2, 7), [0, 0, "3/5", 0, 0, "2/5", 0])
        self.right(ever_ages_by(triple, 0, 1), ["3/5"])
        self.right(ever_ages_by(triple, 2, 1), [0])
        self.right(ever_ages_by(triple, 2, 2), [0, 0])

    def test_each_rest(self):
        for told in BOUNDED_FULL:
            beats = beats_between(told)
            for rest in range(beats):
                for most in (1, 2, 5, 11, 12):
                    self.right(ever_ages_by(told, rest, most), [
                        beats * last(told, age) / middle(told) if age % beats == rest else 0 for age in range(most)])
                self.assertEqual(sum(number(chance) for chance in ever_ages_by(told, rest, 12)), 1)

    def test_ages_come_to_it(self):
        for told in (COIN, folded(COIN, 2), folded(COIN, 3), life("0 1"), life("0 0 0 1/2 0 1/2")):
            beats = beats_between(told)
            for beat in range(120, 120 + beats):
                for chance, other in zip(ever_ages_by(told, beat % beats, 12), ages(told, beat)):
                    self.assertLess(abs(number(chance) - number(other)), Fraction(1, 10 ** 6))

    def test_all_rests_in_the_mean_are_the_ages(self):
        for told in BOUNDED_FULL:
            beats = beats_between(told)
            rows = [ever_ages_by(told, rest, 12) for rest in range(beats)]
            meant = [sum(number(row[age]) for row in rows) / beats for age in range(12)]
            self.right(ever_ages(told, 12), meant)


class EvenFirst(Told):
    def check(self, told, expected):
        found = even_first(told)
        self.assertEqual(found, expected)
        self.assertEqual([type(found), type(found[0]), type(found[1])], [tuple] * 3)
        self.assertIs(is_life(found), True)

    def test_by_written_numbers(self):
        self.check(COIN, life("2/3 1/3"))
        self.check(GEOMETRIC, GEOMETRIC)
        self.check(life("1"), life("1"))
        self.check(life("0 1"), life("1/2 1/2"))
        self.check(life("0 0 0 0 0 0 0 0 0 0 0 1"), life(" ".join(["1/12"] * 12)))
        self.check(life("0 1/2", "1/2"), life("1/3 1/3", "1/2"))
        self.check(life("1/4 1/4 1/4", "1/2"), life("4/11 3/11 2/11", "1/2"))
        self.check(life("1/2 1/4", "1/2"), GEOMETRIC)
        self.check(life("1/2 1/4 1/8 1/16", "1/2"), GEOMETRIC)
        self.check(life("1/2 1/2 0 0"), life("2/3 1/3"))
        self.check(life("1 0 0", "8/9"), life("1"))
        self.check(life("1/2 1/2 0", "1/2"), life("2/3 1/3"))
        self.check(life("1/9", "8/9"), life("1/9", "8/9"))

    def test_its_chances_and_that_it_is_short(self):
        for told in FULL:
            found = even_first(told)
            for k in range(1, 41):
                self.assertEqual(at(found, k), last(told, k - 1) / middle(told))
            self.assertEqual(short(found), found)
            self.assertIs(is_life(found), True)
            self.assertEqual(lack(found), 0)
            for chance in (*found[0], found[1]):
                self.assertTrue(is_ratio(chance))

    def test_with_it_as_first_life_the_chance_is_the_share_at_each_beat(self):
        for told in FULL:
            self.assertEqual(puts_after(even_first(told), told, 20), ((0, 1),) + (share(told),) * 20)

    def test_it_may_be_handed_in_again(self):
        twice = even_first(even_first(COIN))
        self.assertEqual(twice, life("3/4 1/4"))
        great = even_first(cut_at(behind(COIN, life("0 0 0 0 1/999999937 0 999999936/999999937")), 9))
        self.assertEqual(puts_after(even_first(great), great, 20), ((0, 1),) + (share(great),) * 20)


class Kept(unittest.TestCase):
    def test_the_same_is_told_twice_and_short_or_not_does_not_matter(self):
        def ask(told):
            return (share(told), ever_put(told, 0), ever_ages(told, 7), ever_lefts(told, 7), ever_stretches(told, 7),
                    ever_ages_by(told, 0, 7), even_first(told))

        first = [ask(told) for told in FULL]
        again = [ask(told) for told in reversed(FULL)]
        self.assertEqual(first, again[::-1])
        self.assertEqual(first, [ask(short(told)) for told in FULL])


if __name__ == "__main__":
    unittest.main()
