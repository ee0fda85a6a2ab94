"""[38], [39], and what [5] says of EVEN PAPERS whoever wrote them."""
import copy
import random
import unittest
from fractions import Fraction

from freshparts.errors import NoPaper
from freshparts.evenchecker import lets_even
from freshparts.ever import share
from freshparts.puts import puts

from byhand import BOUNDED_FULL, COIN, at, life, long_rows, number, pair, things

BIT = Fraction(1, 10 ** 40)
ZERO, ONE = (0, 1), (1, 1)
LONG = [told for told in long_rows() if told[1] == ZERO]
LIVES = BOUNDED_FULL + tuple(LONG)


def plain_puts(told, many):
    """PUT 0 to PUT many - 1, Fractions."""
    found = [Fraction(1)]
    chances = [at(told, k) for k in range(1, many + 1)]
    while len(found) < many:
        n = len(found)
        found.append(sum(chances[k - 1] * found[n - k] for k in range(1, n + 1)))
    return found[:many]


PUTS = {told: plain_puts(told, 61) for told in (*LIVES, life("1/2 1/2 0 0"), life("1/3 1/3 1/3"))}


def paper(told, many, low=None, high=None):
    """A right one with so many values, the closest bounds where none are told."""
    values = PUTS[told][:many]
    window = values[-len(told[0]):]
    low = min(window) if low is None else low
    high = max(window) if high is None else high
    return (tuple(pair(value) for value in values), pair(low), pair(high))


def changed(thing, place, by):
    """The paper with another value at this place."""
    values, low, high = thing
    return (values[:place] + (pair(number(values[place]) + by),) + values[place + 1:], low, high)


class Checked(unittest.TestCase):
    def lets(self, told, thing):
        self.assertIs(lets_even(told, thing), True, thing)

    def refuses(self, told, thing, word, place):
        with self.assertRaises(NoPaper) as caught:
            lets_even(told, thing)
        refused = caught.exception
        self.assertIs(type(refused), NoPaper)
        self.assertEqual((refused.word, refused.place), (word, place))
        self.assertIs(type(refused.place), int)


class Papers(Checked):
    def test_by_written_numbers(self):
        values = ((1, 1), (1, 2), (3, 4), (5, 8), (11, 16))
        self.lets(COIN, (values[:2], (1, 2), (1, 1)))
        self.lets(COIN, (values[:3], (1, 2), (3, 4)))
        self.lets(COIN, (values, (5, 8), (11, 16)))
        self.lets(COIN, (values, (-7, 1), (7, 1)))
        self.refuses(COIN, (values[:1], (1, 1), (1, 1)), "shape", 0)
        self.refuses(COIN, (values, (2, 3), (3, 4)), "low", 3)
        self.refuses(COIN, (values, (5, 8), (2, 3)), "high", 4)
        self.refuses(COIN, (values[:4] + ((2, 3),), (5, 8), (11, 16)), "value", 4)
        self.lets(life("1"), (((1, 1),), (1, 1), (1, 1)))
        self.lets(life("0 1"), (((1, 1), (0, 1), (1, 1)), (0, 1), (1, 1)))
        self.refuses(life("0 1"), (((1, 1), (0, 1), (1, 1)), (1, 2), (1, 1)), "low", 1)

    def test_as_many_values_as_the_row_is_long_one_less_sixty_and_one_more(self):
        for told in LIVES:
            long = len(told[0])
            for many in sorted({long, min(60, long + 1), 59 if long < 60 else 60, 60}):
                self.lets(told, paper(told, many))
            for many in (long - 1, 61):
                self.refuses(told, paper(told, many, 0, 1), "shape", 0)
            self.refuses(told, ((), ZERO, ONE), "shape", 0)

    def test_each_number_of_values(self):
        for told in (COIN, life("1/2 1/2 0 0"), life("0 0 1/3 0 0 2/3")):
            for many in range(1, 62):
                if len(told[0]) <= many <= 60:
                    self.lets(told, paper(told, many))
                else:
                    self.refuses(told, paper(told, many), "shape", 0)

    def test_noughts_at_the_rows_end_count(self):
        values = ((1, 1), (1, 2), (3, 4), (5, 8), (11, 16))
        long = life("1/2 1/2 0 0")
        self.refuses(long, (values[:3], (1, 2), (3, 4)), "shape", 0)
        self.refuses(long, (values[:4], (1, 2), (3, 4)), "high", 0)
        self.lets(long, (values[:4], (1, 2), (1, 1)))
        self.refuses(long, (values, (5, 8), (11, 16)), "low", 1)
        self.lets(long, (values, (1, 2), (3, 4)))

    def test_a_value_off_by_a_bit_at_each_place(self):
        for told in LIVES:
            for many in sorted({len(told[0]), 60}):
                right = paper(told, many, -9, 9)
                places = range(many) if len(told[0]) < 5 else sorted({0, 1 % many, many // 2, many - 1})
                for place in places:
                    self.refuses(told, changed(right, place, BIT), "value", place)
                    self.refuses(told, changed(right, place, -BIT), "value", place)

    def test_the_first_wrong_value(self):
        right = paper(COIN, 20, -9, 9)
        for place in range(19):
            for other in range(place + 1, 20):
                self.refuses(COIN, changed(changed(right, other, 1), place, -1), "value", place)
        # All behind a wrong one are right by the ones ahead of them: the wrong one is the first all the same.
        for start in (Fraction(2), Fraction(0), Fraction(1, 2)):
            values = [start, start / 2]
            while len(values) < 9:
                values.append((values[-1] + values[-2]) / 2)
            self.refuses(COIN, (tuple(pair(value) for value in values), (-9, 1), (9, 1)), "value", 0)

    def test_low_and_high_off_by_a_bit(self):
        for told in LIVES:
            for many in sorted({len(told[0]), 60}):
                values, low, high = paper(told, many)
                window = range(many - len(told[0]), many)
                first_low = next(place for place in window if number(values[place]) < number(low) + BIT)
                first_high = next(place for place in window if number(values[place]) > number(high) - BIT)
                self.refuses(told, (values, pair(number(low) + BIT), pair(number(high) + 1)), "low", first_low)
                self.refuses(told, (values, pair(number(low) - 1), pair(number(high) - BIT)), "high", first_high)
                self.lets(told, (values, pair(number(low) - BIT), pair(number(high) + BIT)))

    def test_low_and_high_at_each_of_the_last_places(self):
        for told in (COIN, life("1/3 1/3 1/3"), life("1/6 1/6 1/6 1/6 1/6 1/6"), life("0 0 1/3 0 0 2/3")):
            long = len(told[0])
            for many in (long, long + 3, 30):
                values = PUTS[told][:many]
                for place in range(many - long, many):
                    for off in (-BIT, 0, BIT):
                        low = values[place] + off
                        below = [n for n in range(many - long, many) if values[n] < low]
                        above = [n for n in range(many - long, many) if values[n] > low]
                        if below:
                            self.refuses(told, paper(told, many, low, 9), "low", below[0])
                        else:
                            self.lets(told, paper(told, many, low, 9))
                        if above:
                            self.refuses(told, paper(told, many, -9, low), "high", above[0])
                        else:
                            self.lets(told, paper(told, many, -9, low))

    def test_values_ahead_of_the_last_ones_are_not_bounded(self):
        # PUT 0 is one and PUT 1 a half: outside of what is told of the last two.
        for many in range(4, 60):
            self.lets(COIN, paper(COIN, many))
            self.assertTrue(number(paper(COIN, many)[2]) < 1)

    def test_both_of_one_place_ahead_of_the_next_ones(self):
        # Low above high: the value of one place is below low and above high.
        for told in LIVES:
            for many in sorted({len(told[0]), 60}):
                self.refuses(told, paper(told, many, 9, -9), "low", many - len(told[0]))
        values = ((1, 1), (1, 2), (3, 4), (5, 8), (11, 16))
        self.refuses(COIN, (values[:4], (7, 10), (7, 10)), "high", 2)
        self.refuses(COIN, (values, (13, 20), (13, 20)), "low", 3)
        self.refuses(COIN, (values[:3], (2, 3), (2, 3)), "low", 1)
        self.refuses(COIN, (values[:2], (2, 3), (2, 3)), "high", 0)

    def test_first_of_several(self):
        self.refuses(COIN, (((1, 1), (1, 3), (9, 1)), (9, 1), (-9, 1)), "value", 1)
        self.refuses(COIN, (((1, 2), (1, 3), (9, 1)), (9, 1), (-9, 1)), "value", 0)
        self.refuses(COIN, (((1, 1), (1, 2), (9, 1)), (9, 1), (-9, 1)), "value", 2)
        self.refuses(COIN, (((1, 1), (1, 3), (2, 4)), (9, 1), (-9, 1)), "shape", 0)
        self.refuses(COIN, (((1, 1), (1, 3), (9, 1)), (9, 1), (-9, 3)), "shape", 0)


class Shape(Checked):
    def test_any_things(self):
        for thing in things():
            self.refuses(COIN, thing, "shape", 0)
            self.refuses(life("1"), thing, "shape", 0)

    def test_any_things_in_each_place(self):
        right = paper(COIN, 5)
        for place in range(3):
            for thing in things():
                self.refuses(COIN, right[:place] + (thing,) + right[place + 1:], "shape", 0)

    def test_any_things_among_the_values(self):
        values, low, high = paper(COIN, 5)
        for thing in things():
            for place in (0, 2, 4):
                self.refuses(COIN, (values[:place] + (thing,) + values[place + 1:], low, high), "shape", 0)

    def test_lists_and_other_lengths(self):
        values, low, high = right = paper(COIN, 5)
        for thing in (list(right), right[:2], right + ((0, 1),), (right,), [right], {0: right}, right + right,
                      (list(values), low, high), (values, list(low), high), (values, low, list(high)), (low, high),
                      (low, high, values), (tuple(list(value) for value in values), low, high), (values, None, high),
                      (values, low, None), (dict.fromkeys(values), low, high)):
            self.refuses(COIN, thing, "shape", 0)

    def test_ratios_that_are_none(self):
        values, low, high = paper(life("1"), 3)
        self.lets(life("1"), (values, low, high))
        for wrong in ((True, 1), (1, True), (2, 2), (1, 0), (-1, -1), (False, 1), 1, True, "1", None, (1,), (1, 1, 1),
                      [1, 1], (0, 2)):
            for place in range(3):
                self.refuses(life("1"), (values[:place] + (wrong,) + values[place + 1:], low, high), "shape", 0)
            self.refuses(life("1"), (values, wrong, high), "shape", 0)
            self.refuses(life("1"), (values, low, wrong), "shape", 0)

    def test_great_numbers(self):
        great = 10 ** 199 + 153
        self.lets(COIN, (paper(COIN, 5)[0], (-great, 1), (great, 1)))
        self.refuses(COIN, (((1, 1), (great, great - 1)), ZERO, ONE), "value", 1)
        self.refuses(COIN, (((great, 1),) * 60, ZERO, ONE), "value", 0)
        self.refuses(COIN, (((1, 1),) + tuple((1, great + 2 * k) for k in range(59)), ZERO, ONE), "value", 1)


class Whoever(Checked):
    def due(self, told, thing):
        values, low, high = thing
        for n, value in enumerate(values):
            if number(value) != PUTS[told][n]:
                return ("value", n)
        for n in range(len(values) - len(told[0]), len(values)):
            if number(values[n]) < number(low):
                return ("low", n)
            if number(values[n]) > number(high):
                return ("high", n)
        return None

    def test_let_by_or_refused_by_the_documents_words_and_what_is_let_by_is_so(self):
        chooser = random.Random(39)
        seen = set()
        for told in LIVES:
            later = PUTS[told]
            for turn in range(20):
                many = chooser.randrange(len(told[0]), 61)
                thing = paper(told, many)
                if chooser.random() < 0.3:
                    thing = changed(thing, chooser.randrange(many), chooser.choice((BIT, -BIT, 1)))
                low = number(thing[1]) + chooser.choice((0, 0, -BIT, BIT, Fraction(1, 9)))
                high = number(thing[2]) + chooser.choice((0, 0, -BIT, BIT, -Fraction(1, 9)))
                thing = (thing[0], pair(low), pair(high))
                due = self.due(told, thing)
                seen.add(due and due[0])
                if due is None:
                    self.lets(told, thing)
                    self.assertTrue(all(low <= value <= high for value in later[many - len(told[0]):]))
                    self.assertTrue(low <= number(share(told)) <= high)
                else:
                    self.refuses(told, thing, *due)
        self.assertEqual(seen, {None, "value", "low", "high"})

    def test_told_puts_are_right_values(self):
        for told in BOUNDED_FULL:
            values = puts(told, 20)
            self.lets(told, (values, ZERO, ONE))

    def test_what_is_handed_in_stays_as_it_was_and_the_same_is_told_twice(self):
        asked = [[[[1, 1], [1, 2]], [0, 1], [1, 1]], ([(1, 1)], {"a": [1]}, (1, 1)), (((1, 1), (1, 3)), ZERO, ONE)]
        copies = copy.deepcopy(asked)
        for turn in range(2):
            for thing, word, place in zip(asked, ("shape", "shape", "value"), (0, 0, 1)):
                self.refuses(COIN, thing, word, place)
            self.lets(COIN, paper(COIN, 5))
        self.assertEqual(asked, copies)


if __name__ == "__main__":
    unittest.main()
