"""[3] LIFE, CHANCE AT, LASTING, MISS, SHORT and [11]."""
import itertools
import unittest
from fractions import Fraction

from freshparts.lives import chance_at, is_life, lasting, miss, short
from freshparts.ratios import is_ratio

from byhand import EMPTY, GEOMETRIC, SAMPLES, at, lack, last, life, pair

GREAT = 10 ** 199 + 153


class Told(unittest.TestCase):
    def right(self, told, expected):
        """Just this RATIO, of just these kinds."""
        self.assertEqual(told, pair(Fraction(expected)))
        self.assertIs(type(told), tuple)
        self.assertTrue(is_ratio(told))


class IsLife(unittest.TestCase):
    def yes(self, thing):
        self.assertIs(is_life(thing), True, thing)

    def no(self, thing):
        self.assertIs(is_life(thing), False, thing)

    def test_samples(self):
        for told in SAMPLES:
            self.yes(told)

    def test_row_without_chances_has_step_nought(self):
        self.yes(((), (0, 1)))
        self.no(((), (1, 2)))
        self.no(((), (1, 1)))
        self.no(((), (0, 2)))
        self.no(((), 0))
        self.no(((), ()))
        self.no(((), (False, True)))

    def test_step_is_a_chance_below_one(self):
        self.yes((((0, 1),), (1, 2)))
        self.yes((((0, 1),), (GREAT - 1, GREAT)))
        self.no((((0, 1),), (1, 1)))
        self.no((((0, 1),), (3, 2)))
        self.no((((0, 1),), (-1, 2)))
        self.no((((0, 1),), (2, 4)))
        self.no((((0, 1),), (0, 2)))
        self.no((((0, 1),), True))
        self.no((((0, 1),), (0, True)))
        self.no((((0, 1),), None))
        self.no((((0, 1),), [0, 1]))

    def test_row_without_a_step_is_at_most_one(self):
        self.yes(life("1/2 1/2"))
        self.yes(life("1/2 1/2 0 0"))
        self.yes(life("1/2 1/3 1/6"))
        self.yes(life("1"))
        self.no(life("1/2 1/3 1/5"))
        self.no(life("1 1/999999999"))
        self.no(life("1/2 1/2 1/1000000000"))
        self.no(life("1/1000000000 1"))

    def test_row_with_a_step_is_at_most_one(self):
        self.yes(life("1/2", "1/2"))
        self.yes(life("1/2 1/4", "1/2"))
        self.no(life("1/2", "500001/1000000"))
        self.no(life("500001/1000000", "1/2"))
        self.no(life("1/2 1/4 1/4", "1/9"))
        self.no(life("1/1000000000 1/2", "1/2"))
        self.yes(life("1/9", "8/9"))
        self.no(life("1/9 1/9", "8/9"))

    def test_step_beside_a_row_that_ends_in_nought(self):
        self.yes(life("1 0", "8/9"))
        self.yes(life("1/2 1/2 0", "1/2"))
        self.no(life("1/2 1/2 1/9 0", "1/2"))
        self.yes(life("0", "1/2"))

    def test_chances_are_from_nought_to_one(self):
        self.no((((3, 2),), (0, 1)))
        self.no((((-1, 2),), (0, 1)))
        self.no((((1, 1), (-1, 2)), (0, 1)))
        self.no((((3, 2), (-1, 2)), (0, 1)))
        self.no((((2, 4),), (0, 1)))
        self.no((((0, 2),), (0, 1)))
        self.no((((1, 0),), (0, 1)))

    def test_truths_are_no_whole_numbers(self):
        self.no((((True, 1),), (0, 1)))
        self.no((((1, True),), (0, 1)))
        self.no((((True, 2),), (0, 1)))
        self.no((((1, 2),), (False, 1)))
        self.no((((1, 2),), (0, True)))
        self.no((((1, 2), (False, 1)), (0, 1)))

    def test_lists_are_no_tuples(self):
        self.no([((1, 2),), (0, 1)])
        self.no(([(1, 2)], (0, 1)))
        self.no((((1, 2), [1, 3]), (0, 1)))
        self.no((((1, 2),), [0, 1]))
        self.no(([], (0, 1)))

    def test_other_things(self):
        deep = ()
        for turn in range(19):
            deep = (deep,)
        for thing in (None, True, False, 0, 1, -5, GREAT, "", "1/2", (), (1,), (1, 2), (0, 1), ((), (0, 1), ()),
                      (((1, 2),),), (((1, 2),), (0, 1), (0, 1)), {}, {(): (0, 1)}, {0: (), 1: (0, 1)}, deep,
                      (deep, (0, 1)), ("", (0, 1)), ({}, (0, 1)), (None, (0, 1)), ((1, 2), (0, 1)),
                      ((None,), (0, 1)), (((),), (0, 1)), (((1, 2, 3),), (0, 1)), (("12",), (0, 1)),
                      ((GREAT,), (0, 1)), (((1, 2), 7), (0, 1)), ([[1, 2]], [0, 1])):
            self.no(thing)

    def test_numbers_of_two_hundred_figures(self):
        self.yes((((1, GREAT), (GREAT - 1, GREAT)), (0, 1)))
        self.no((((2, GREAT), (GREAT - 1, GREAT)), (0, 1)))
        self.no((((1, GREAT - 1), (GREAT - 1, GREAT)), (0, 1)))
        self.yes((((1, GREAT + 1), (GREAT - 1, GREAT)), (0, 1)))
        self.no((((GREAT, 1),), (0, 1)))
        self.no((((-1, GREAT),), (0, 1)))
        self.yes((((1, GREAT),), (GREAT - 1, GREAT)))
        self.no((((1, GREAT - 1),), (GREAT - 1, GREAT)))
        self.yes((((1, GREAT + 1),), (GREAT - 1, GREAT)))
        self.no((((GREAT, GREAT),), (0, 1)))

    def test_long_rows_of_great_numbers(self):
        row = tuple((1, GREAT + 2 * place) for place in range(600))
        self.yes((row, (0, 1)))
        self.no((row + ((1, 1),), (0, 1)))
        self.no((row[:300] + ((2, 4),) + row[300:], (0, 1)))
        self.yes((((1, 600),) * 600, (0, 1)))
        self.no((((1, 599),) * 600, (0, 1)))

    def test_nothing_is_changed(self):
        thing = ([[1, 2]], {"step": [0, 1]})
        is_life(thing)
        self.assertEqual(thing, ([[1, 2]], {"step": [0, 1]}))


class ChanceAt(Told):
    def test_samples(self):
        for told in SAMPLES:
            for k in range(1, 41):
                self.right(chance_at(told, k), at(told, k))

    def test_at_the_rows_end_and_behind_it(self):
        told = life("1/5 1/10", "1/3")
        self.right(chance_at(told, 1), "1/5")
        self.right(chance_at(told, 2), "1/10")
        self.right(chance_at(told, 3), "1/30")
        self.right(chance_at(told, 4), "1/90")
        self.right(chance_at(told, 40), Fraction(1, 10 * 3 ** 38))

    def test_noughts(self):
        self.right(chance_at(EMPTY, 1), 0)
        self.right(chance_at(EMPTY, 40), 0)
        self.right(chance_at(life("1/2"), 2), 0)
        self.right(chance_at(life("1/2 0", "1/2"), 3), 0)


class Lasting(Told):
    def test_samples(self):
        for told in SAMPLES:
            for k in range(41):
                self.right(lasting(told, k), last(told, k))

    def test_by_written_numbers(self):
        self.right(lasting(GEOMETRIC, 0), 1)
        self.right(lasting(GEOMETRIC, 1), "1/2")
        self.right(lasting(GEOMETRIC, 40), Fraction(1, 2 ** 40))
        self.right(lasting(EMPTY, 0), 1)
        self.right(lasting(EMPTY, 40), 1)
        self.right(lasting(life("1/2 1/3 1/6"), 2), "1/6")
        self.right(lasting(life("1/2 1/3 1/6"), 3), 0)
        self.right(lasting(life("1/2 1/3 1/6"), 40), 0)
        self.right(lasting(life("1/2 1/3"), 7), "1/6")


class Miss(Told):
    def test_samples(self):
        for told in SAMPLES:
            self.right(miss(told), lack(told))

    def test_by_written_numbers(self):
        self.right(miss(EMPTY), 1)
        self.right(miss(life("1/2 1/2")), 0)
        self.right(miss(life("1/2 1/4")), "1/4")
        self.right(miss(GEOMETRIC), 0)
        self.right(miss(life("1/3", "1/2")), "1/3")
        self.right(miss(life("1/2 0", "1/2")), "1/2")
        self.right(miss(life("1/9", "8/9")), 0)
        self.right(miss(life("1 0 0", "8/9")), 0)
        self.right(miss(life("0 0")), 1)


class Short(unittest.TestCase):
    def check(self, told, expected):
        found = short(told)
        self.assertEqual(found, expected)
        self.assertEqual([type(found), type(found[0]), type(found[1])], [tuple, tuple, tuple])
        self.assertTrue(is_life(found))

    def test_by_written_numbers(self):
        self.check(EMPTY, EMPTY)
        self.check(life("0"), EMPTY)
        self.check(life("0 0 0"), EMPTY)
        self.check(life("0", "1/2"), EMPTY)
        self.check(life("0 0", "8/9"), EMPTY)
        self.check(life("1/2"), life("1/2"))
        self.check(life("1/2 0 0"), life("1/2"))
        self.check(life("1/2 0 1/4 0"), life("1/2 0 1/4"))
        self.check(life("1/2 0", "1/3"), life("1/2"))
        self.check(life("1/2 1/4 0", "1/2"), life("1/2 1/4"))
        self.check(life("1/2 1/4"), life("1/2 1/4"))
        self.check(life("1/2 1/4", "1/2"), GEOMETRIC)
        self.check(life("1/2 1/4 1/8 1/16 1/32", "1/2"), GEOMETRIC)
        self.check(life("1/4 1/4 1/8", "1/2"), life("1/4 1/4", "1/2"))
        self.check(life("1/4 1/8 1/8", "1/2"), life("1/4 1/8 1/8", "1/2"))
        self.check(life("0 1/4 1/8", "1/2"), life("0 1/4", "1/2"))
        self.check(life("0 0 1/4", "1/3"), life("0 0 1/4", "1/3"))
        self.check(life("1/4", "1/3"), life("1/4", "1/3"))
        self.check(life("1/2 1/6", "1/4"), life("1/2 1/6", "1/4"))

    def test_same_chances_and_short_again(self):
        for told in SAMPLES:
            found = short(told)
            for k in range(1, 41):
                self.assertEqual(at(found, k), at(told, k))
            self.assertLessEqual(len(found[0]), len(told[0]))
            self.assertEqual(short(found), found)
            self.assertTrue(is_life(found))

    def test_none_other_is_shorter(self):
        # Among all small LIVES the one found is the only one with its CHANCES AT and a row of that length or less
        # (behind four places two different ones of these would differ ahead of twelve).
        chances = ("0", "1/8", "1/4", "1/2")
        by_chances = {}
        for length in range(4):
            for words in itertools.product(chances, repeat=length):
                for step in ("0", "1/2", "1/4"):
                    told = life(" ".join(words), step)
                    if is_life(told):
                        key = tuple(at(told, k) for k in range(1, 12))
                        by_chances.setdefault(key, []).append(told)
        for alike in by_chances.values():
            least = min(len(told[0]) for told in alike)
            found = {short(told) for told in alike}
            self.assertEqual(len(found), 1)
            one = found.pop()
            self.assertEqual(len(one[0]), least)
            self.assertIn(one, alike)
            if not any(at(one, k) for k in range(least + 1, least + 5)):
                self.assertEqual(one[1], (0, 1))

    def test_told_ones_may_be_handed_in_again_however_great(self):
        row = tuple((1, 100 + place) for place in range(60))
        told = (row + ((0, 1),) * 9, (0, 1))
        self.check(told, (row, (0, 1)))
        self.assertEqual(miss(told), pair(lack(told)))
        self.assertEqual(lasting(told, 40), pair(last(told, 40)))


class Twice(unittest.TestCase):
    def test_the_same_is_told_twice_and_what_was_asked_between_does_not_matter(self):
        first = [(is_life(told), chance_at(told, 7), lasting(told, 7), miss(told), short(told)) for told in SAMPLES]
        again = [(is_life(told), chance_at(told, 7), lasting(told, 7), miss(told), short(told))
                 for told in reversed(SAMPLES)]
        self.assertEqual(first, again[::-1])


if __name__ == "__main__":
    unittest.main()
