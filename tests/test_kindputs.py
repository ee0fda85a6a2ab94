"""[52]: what is PUT and what STANDS of several kinds."""
import copy
import unittest
from fractions import Fraction

from freshparts.kindputs import first_of, kind_puts, kind_stands
from freshparts.kinds import kind_life, lent
from freshparts.lives import lasting
from freshparts.puts import anew, puts
from freshparts.standing import ages

from byhand import ALL_KINDS, COIN, kind_ways, kinds, life, number
from telling import Told

NEAR = 6


def firsts():
    return [(told, first) for told in ALL_KINDS for first in range(len(told))]


def plain_puts(told, first, most, shut=None):
    """By the sum over all triples, Fractions; behind a later one of the kind shut nothing follows."""
    rows = [[Fraction(int(kind == first)) for kind in range(len(told))]]
    for beat in range(1, most + 1):
        row = [Fraction(0)] * len(told)
        for kind, triples in enumerate(told):
            for stretch, follower, chance in triples:
                since = beat - stretch
                if since >= 0 and (since == 0 or kind != shut):
                    row[follower] += rows[since][kind] * number(chance)
        rows.append(row)
    return rows


class KindPuts(Told):
    def test_by_written_numbers(self):
        told = lent(COIN, life("0 1/3"))
        self.assertEqual(kind_puts(told, 0, 3),
                         (((1, 1), (0, 1)), ((0, 1), (1, 2)), ((0, 1), (1, 2)), ((1, 6), (0, 1))))
        self.assertEqual(kind_puts(told, 1, 2), (((0, 1), (1, 1)), ((0, 1), (0, 1)), ((1, 3), (0, 1))))
        self.assertEqual(kind_puts(told, 1, 0), (((0, 1), (1, 1)),))
        self.assertEqual(kind_puts(kinds(""), 0, 2), (((1, 1),), ((0, 1),), ((0, 1),)))

    def test_by_going_through_all(self):
        for told, first in firsts():
            found = kind_puts(told, first, NEAR)
            expected = [[Fraction(0)] * len(told) for beat in range(NEAR + 1)]
            for row, chance in kind_ways(told, first, NEAR):
                for beat, kind in row:
                    expected[beat][kind] += chance
            self.assertIs(type(found), tuple)
            self.assertEqual(len(found), NEAR + 1)
            for row, other in zip(found, expected):
                self.right(row, other)

    def test_by_sums_to_beat_20(self):
        for told, first in firsts():
            expected = plain_puts(told, first, 20)
            for most in (0, 1, 20):
                found = kind_puts(told, first, most)
                self.assertEqual(len(found), most + 1)
                for row, other in zip(found, expected):
                    self.right(row, other)

    def test_one_kind_alone_is_put_as_by_its_life(self):
        for told in ALL_KINDS:
            if len(told) == 1:
                self.assertEqual(tuple(row[0] for row in kind_puts(told, 0, 20)), puts(kind_life(told, 0), 20))

    def test_kinds_that_are_never_led_to_are_never_put(self):
        told = kinds("1>1:1", "2>0:1", "1>0:1/2 4>1:1/2")
        for first in (0, 1):
            self.assertTrue(all(row[2] == (0, 1) for row in kind_puts(told, first, 20)))


class KindStands(Told):
    def test_by_written_numbers(self):
        told = lent(COIN, life("0 1/3"))
        self.assertEqual(kind_stands(told, 0, 0), ((1, 1), (0, 1)))
        self.assertEqual(kind_stands(told, 1, 0), ((0, 1), (1, 1)))
        self.assertEqual(kind_stands(told, 0, 1), ((1, 2), (1, 2)))
        self.assertEqual(kind_stands(told, 0, 4), ((1, 4), (3, 4)))

    def test_by_going_through_all(self):
        for told, first in firsts():
            for beat in (0, 1, 3, NEAR):
                expected = [Fraction(0)] * len(told)
                for row, chance in kind_ways(told, first, beat):
                    expected[row[-1][1]] += chance
                self.right(kind_stands(told, first, beat), expected)

    def test_together_one(self):
        for told, first in firsts():
            for beat in range(21):
                found = kind_stands(told, first, beat)
                self.assertEqual(sum(number(chance) for chance in found), 1)

    def test_puts_times_lasting(self):
        for told, first in firsts():
            rows = plain_puts(told, first, 20)
            for kind, chance in enumerate(kind_stands(told, first, 20)):
                own = kind_life(told, kind)
                self.one(chance, sum(rows[beat][kind] * number(lasting(own, 20 - beat)) for beat in range(21)))

    def test_one_kind_alone_always_stands(self):
        for told in ALL_KINDS:
            if len(told) == 1:
                self.assertEqual(kind_stands(told, 0, 20), ((1, 1),))
                self.assertEqual(sum(number(one) for one in ages(kind_life(told, 0), 20)), 1)


class FirstOf(Told):
    def test_by_written_numbers(self):
        told = lent(COIN, life("0 1/3"))
        self.assertEqual(first_of(told, 0, 1, 4), ((1, 2), (1, 2), (0, 1), (0, 1)))
        self.assertEqual(first_of(told, 0, 0, 5), ((0, 1), (0, 1), (1, 6), (1, 6), (0, 1)))
        self.assertEqual(first_of(told, 1, 1, 5), ((0, 1), (0, 1), (1, 6), (1, 6), (0, 1)))
        self.assertEqual(first_of(told, 1, 0, 2), ((0, 1), (1, 3)))
        self.assertEqual(first_of(told, 0, 1, 0), ())
        self.assertEqual(first_of(kinds("1>0:1/2 2>0:1/4"), 0, 0, 3), ((1, 2), (1, 4), (0, 1)))

    def test_by_going_through_all(self):
        for told, first in firsts():
            for other in range(len(told)):
                expected = [Fraction(0)] * NEAR
                for row, chance in kind_ways(told, first, NEAR):
                    met = [beat for beat, kind in row[1:] if kind == other]
                    if met:
                        expected[met[0] - 1] += chance
                self.right(first_of(told, first, other, NEAR), expected)

    def test_by_sums_to_beat_20(self):
        for told, first in firsts():
            for other in range(len(told)):
                expected = [row[other] for row in plain_puts(told, first, 20, other)][1:]
                for most in (0, 1, 20):
                    self.right(first_of(told, first, other, most), expected[:most])

    def test_puts_obey_the_sum_a_first_one_then_all_anew(self):
        # [5]: other is put as by first_of from the first on, then by first_of from itself on.
        for told, first in firsts():
            for other in range(len(told)):
                around = first_of(told, other, other, 20)
                found = [row[other] for row in kind_puts(told, first, 20)]
                start = ((1, 1) if other == first else (0, 1),)
                begin = start + (first_of(told, first, other, 20) if other != first else ((0, 1),) * 20)
                self.assertEqual(tuple(found), anew((around, (0, 1)), begin))

    def test_of_kinds_lent_it_is_the_life_itself(self):
        for home in (COIN, life("0 1/3 0 1/3"), life("1/6 1/6 1/6 1/6 1/6 1/6")):
            told = lent(home, COIN)
            row = home[0]
            self.assertEqual(first_of(told, 0, 1, 20), row + ((0, 1),) * (20 - len(row)))

    def test_what_is_handed_in_stays_and_the_same_is_told_twice(self):
        copies = copy.deepcopy(ALL_KINDS)

        def asked():
            return [(kind_puts(told, first, 20), kind_stands(told, first, 20), first_of(told, first, 0, 20))
                    for told, first in firsts()]

        self.assertEqual(asked(), asked())
        self.assertEqual(ALL_KINDS, copies)


if __name__ == "__main__":
    unittest.main()
