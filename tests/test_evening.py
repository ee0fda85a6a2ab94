"""[40], and what [5] says of EVEN PAPERS."""
import copy
import unittest
from fractions import Fraction

from freshparts.errors import FreshError, NoBeat
from freshparts.evenchecker import lets_even
from freshparts.evening import even_paper
from freshparts.ever import even_first, share
from freshparts.lives import short
from freshparts.making import behind, cut_at, folded, mixed_by
from freshparts.puts import puts

from byhand import BOUNDED_FULL, COIN, at, life, number, pair
from telling import Told

# Rows of one to twelve CHANCES, a ROUND of 2 and 3 among them, with noughts at a row's end.
LIVES = BOUNDED_FULL + (
    life("1 0 0 0"),
    life("1/2 1/2 0 0"),
    life("0 0 1"),
    life("0 1/3 0 2/3"),
    life("0 1/3 0 2/3 0 0 0"),
    life("0 0 1/4 0 0 3/4"),
    life("1/999999937 999999936/999999937 0"),
)


def plain_puts(told, most):
    found = [Fraction(1)]
    for n in range(1, most + 1):
        found.append(sum(at(told, k) * found[n - k] for k in range(1, n + 1)))
    return found


class EvenPaper(Told):
    def refuses(self, told, most):
        with self.assertRaises(FreshError) as caught:
            even_paper(told, most)
        self.assertIs(type(caught.exception), NoBeat)
        self.assertEqual(caught.exception.beat, most)
        self.assertIs(type(caught.exception.beat), int)

    def test_by_written_numbers(self):
        self.assertEqual(even_paper(life("1"), 0), (((1, 1),), (1, 1), (1, 1)))
        self.assertEqual(even_paper(COIN, 1), (((1, 1), (1, 2)), (1, 2), (1, 1)))
        self.assertEqual(even_paper(COIN, 2), (((1, 1), (1, 2), (3, 4)), (1, 2), (3, 4)))
        self.assertEqual(even_paper(COIN, 4), (((1, 1), (1, 2), (3, 4), (5, 8), (11, 16)), (5, 8), (11, 16)))
        self.assertEqual(even_paper(life("1/2 1/2 0 0"), 4)[1:], ((1, 2), (3, 4)))
        self.assertEqual(even_paper(life("0 1"), 3), (((1, 1), (0, 1), (1, 1), (0, 1)), (0, 1), (1, 1)))
        self.assertEqual(even_paper(life("1"), 20), (((1, 1),) * 21, (1, 1), (1, 1)))

    def test_values_and_the_closest_bounds(self):
        for told in LIVES:
            long = len(told[0])
            for most in range(long - 1, 21):
                found = even_paper(told, most)
                self.assertIs(type(found), tuple)
                self.assertEqual(len(found), 3)
                values = plain_puts(told, most)
                self.right(found[0], values)
                self.one(found[1], min(values[-long:]))
                self.one(found[2], max(values[-long:]))
                self.assertEqual(found[0], puts(told, most))
                self.assertIs(lets_even(told, found), True)

    def test_a_most_by_which_the_row_is_just_long_enough_and_one_less(self):
        for told in LIVES:
            long = len(told[0])
            self.assertEqual(len(even_paper(told, long - 1)[0]), long)
            for most in range(long - 1):
                self.refuses(told, most)
        self.refuses(COIN, 0)
        self.refuses(life("1 0 0 0"), 2)
        self.assertEqual(even_paper(life("1 0 0 0"), 3), (((1, 1),) * 4, (1, 1), (1, 1)))

    def test_the_row_counts_as_it_is_handed_in(self):
        long = life("1/2 1/2 0 0 0 0 0 0 0 0 0 0")
        self.refuses(long, 10)
        self.assertEqual(even_paper(long, 11)[1:], ((1, 2), (1, 1)))
        self.assertEqual(even_paper(short(long), 1)[1:], ((1, 2), (1, 1)))

    def test_of_a_greater_most_low_is_no_less_and_high_no_more(self):
        for told in LIVES:
            bounds = [even_paper(told, most)[1:] for most in range(len(told[0]) - 1, 21)]
            for (low, high), (later_low, later_high) in zip(bounds, bounds[1:]):
                self.assertLessEqual(number(low), number(later_low))
                self.assertGreaterEqual(number(high), number(later_high))

    def test_all_later_puts_and_the_share_are_from_low_to_high(self):
        for told in LIVES:
            later = plain_puts(told, 60)
            for most in (len(told[0]) - 1, len(told[0]), 20):
                found = even_paper(told, most)
                low, high = number(found[1]), number(found[2])
                for value in later[most + 1 - len(told[0]):]:
                    self.assertTrue(low <= value <= high)
                self.assertTrue(low <= number(share(told)) <= high)

    def test_by_a_round_the_bounds_stay_apart(self):
        for told, beats in ((life("0 1"), 2), (life("0 1/3 0 2/3"), 2), (life("0 0 1/4 0 0 3/4"), 3)):
            found = even_paper(told, 20)
            self.assertEqual(found[1], (0, 1))
            self.assertGreaterEqual(number(found[2]), beats * number(share(told)))

    def test_told_lives_may_be_handed_in_again(self):
        for told in (cut_at(life("1/2", "1/2"), 5), behind(COIN, COIN), folded(COIN, 3),
                     mixed_by((COIN, life("0 0 1")), ((1, 3), (2, 3))), even_first(even_first(COIN))):
            found = even_paper(told, 20)
            self.assertIs(lets_even(told, found), True)
            self.right(found[0], plain_puts(told, 20))

    def test_a_bit_closer_is_refused(self):
        bit = Fraction(1, 10 ** 50)
        for told in LIVES:
            values, low, high = even_paper(told, 20)
            for wrong in ((values, pair(number(low) + bit), high), (values, low, pair(number(high) - bit))):
                with self.assertRaises(FreshError):
                    lets_even(told, wrong)

    def test_what_is_handed_in_stays_and_the_same_is_told_twice(self):
        copies = copy.deepcopy(LIVES)
        first = [even_paper(told, 20) for told in LIVES]
        again = [even_paper(told, 20) for told in reversed(LIVES)]
        self.assertEqual(first, again[::-1])
        self.assertEqual(LIVES, copies)


if __name__ == "__main__":
    unittest.main()
