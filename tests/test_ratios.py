"""[3] RATIO and [10]."""
import random
import unittest
from fractions import Fraction

from freshparts.errors import NoRatio
from freshparts.ratios import is_below, is_ratio, minus, over, plus, ratio, times

from byhand import number, pair

SIXTY = 10 ** 60 - 1
PRIME = 10 ** 59 + 213
WHOLES = (0, 1, -1, 2, -2, 3, 6, -12, 35, 999, -1000, SIXTY, -SIXTY, SIXTY - 1, PRIME, -PRIME, 2 ** 199, -(3 ** 125))
TWO_HUNDRED = 10 ** 200 - 1


class Plain(unittest.TestCase):
    def right(self, told, expected):
        """Just this RATIO, of just these kinds."""
        self.assertEqual(told, expected)
        self.assertIs(type(told), tuple)
        self.assertEqual([type(part) for part in told], [int, int])
        self.assertTrue(is_ratio(told))


class IsRatio(unittest.TestCase):
    def test_right_ones(self):
        for thing in ((0, 1), (1, 1), (-1, 1), (1, 2), (-3, 7), (7, 3), (-7, 1), (SIXTY, PRIME), (-SIXTY, SIXTY - 1),
                      (TWO_HUNDRED, TWO_HUNDRED - 1), (-TWO_HUNDRED, 2 ** 660), (1, TWO_HUNDRED), (TWO_HUNDRED, 1)):
            self.assertIs(is_ratio(thing), True, thing)

    def test_not_in_lowest_terms(self):
        for thing in ((0, 2), (2, 2), (2, 4), (-2, 4), (6, 3), (-6, 3), (0, TWO_HUNDRED),
                      (3 * 10 ** 198, 3 * 10 ** 198 + 3), (TWO_HUNDRED, 9), (TWO_HUNDRED, TWO_HUNDRED)):
            self.assertIs(is_ratio(thing), False, thing)

    def test_bottoms_below_one(self):
        for thing in ((1, 0), (0, 0), (-1, 0), (1, -1), (0, -1), (-1, -2), (1, -TWO_HUNDRED)):
            self.assertIs(is_ratio(thing), False, thing)

    def test_truths_are_no_whole_numbers(self):
        for thing in ((True, 1), (1, True), (True, True), (False, 1), (0, True), (False, True), (True, 2), (5, True)):
            self.assertIs(is_ratio(thing), False, thing)

    def test_other_kinds_and_shapes(self):
        deep = ()
        for turn in range(19):
            deep = (deep,)
        for thing in ([1, 2], [0, 1], (), (1,), (1, 2, 3), (1, 2, 1), ((1, 2),), ([1], [2]), ((1,), (2,)),
                      ((1, 2), (1, 2)), {1: 2}, {0: 1, 1: 2}, {}, [], "12", "1/2", "", None, True, False, 0, 1, 7,
                      TWO_HUNDRED, ("1", "2"), (1, "2"), ("1", 2), (None, 1), (1, None), (1, [2]), ([1], 2),
                      ({}, 1), (1, {}), deep, (deep, 1), (0, (1,)), [[0, 1]]):
            self.assertIs(is_ratio(thing), False, thing)

    def test_nothing_is_changed(self):
        thing = [[1, 2], {"a": (1, 2)}]
        is_ratio(thing)
        self.assertEqual(thing, [[1, 2], {"a": (1, 2)}])


class Ratio(Plain):
    def test_lowest_terms_and_signs(self):
        for top, bottom, told in ((1, 2, (1, 2)), (2, 4, (1, 2)), (-2, 4, (-1, 2)), (2, -4, (-1, 2)),
                                  (-2, -4, (1, 2)), (0, 5, (0, 1)), (0, -5, (0, 1)), (0, 1, (0, 1)), (7, 7, (1, 1)),
                                  (7, -7, (-1, 1)), (-7, -7, (1, 1)), (6, 3, (2, 1)), (6, -3, (-2, 1)),
                                  (12, 18, (2, 3)), (18, 12, (3, 2)), (1, -1, (-1, 1))):
            self.right(ratio(top, bottom), told)

    def test_all_of_the_wholes(self):
        for top in WHOLES:
            for bottom in WHOLES:
                if bottom != 0:
                    self.right(ratio(top, bottom), pair(Fraction(top, bottom)))

    def test_small_ones_all(self):
        for top in range(-30, 31):
            for bottom in range(-30, 31):
                if bottom != 0:
                    self.right(ratio(top, bottom), pair(Fraction(top, bottom)))

    def test_bottom_nought_is_refused(self):
        for top in (0, 1, -1, SIXTY, -SIXTY):
            with self.assertRaises(NoRatio) as caught:
                ratio(top, 0)
            self.assertIs(type(caught.exception), NoRatio)


class Reckoned(Plain):
    def setUp(self):
        chooser = random.Random(10)
        self.told = [(0, 1), (1, 1), (-1, 1), (1, 2), (-1, 2), (2, 3), (5, 6), (7, 6), (-7, 6), (1, 6), (1, 3),
                     (SIXTY, PRIME), (-SIXTY, SIXTY - 1), (1, SIXTY), (SIXTY, 1), (PRIME, SIXTY)]
        for turn in range(12):
            self.told.append(pair(Fraction(chooser.randint(-60, 60), chooser.randint(1, 60))))

    def test_plus(self):
        for one in self.told:
            for other in self.told:
                self.right(plus(one, other), pair(number(one) + number(other)))

    def test_minus(self):
        for one in self.told:
            for other in self.told:
                self.right(minus(one, other), pair(number(one) - number(other)))

    def test_times(self):
        for one in self.told:
            for other in self.told:
                self.right(times(one, other), pair(number(one) * number(other)))

    def test_over(self):
        for one in self.told:
            for other in self.told:
                if other != (0, 1):
                    self.right(over(one, other), pair(number(one) / number(other)))

    def test_over_nought_is_refused(self):
        for one in self.told:
            with self.assertRaises(NoRatio) as caught:
                over(one, (0, 1))
            self.assertIs(type(caught.exception), NoRatio)

    def test_is_below(self):
        for one in self.told:
            for other in self.told:
                self.assertIs(is_below(one, other), number(one) < number(other), (one, other))

    def test_by_written_numbers(self):
        self.right(plus((1, 6), (1, 3)), (1, 2))
        self.right(minus((1, 6), (2, 3)), (-1, 2))
        self.right(minus((1, 2), (1, 2)), (0, 1))
        self.right(times((2, 3), (3, 4)), (1, 2))
        self.right(over((1, 2), (-3, 4)), (-2, 3))
        self.right(over((0, 1), (-3, 4)), (0, 1))
        self.assertIs(is_below((1, 3), (1, 2)), True)
        self.assertIs(is_below((1, 2), (1, 2)), False)
        self.assertIs(is_below((-1, 2), (-1, 3)), True)

    def test_close_ones_of_sixty_figures(self):
        one, other = (SIXTY - 1, SIXTY), (SIXTY - 2, SIXTY - 1)
        self.assertIs(is_below(other, one), True)
        self.assertIs(is_below(one, other), False)
        self.right(minus(one, other), (1, SIXTY * (SIXTY - 1)))

    def test_told_ones_may_be_handed_in_again_however_great(self):
        great = (1, 1)
        for turn in range(1, 40):
            great = plus(times(great, (SIXTY, PRIME)), (1, SIXTY - turn))
        self.assertTrue(is_ratio(great))
        self.right(over(great, great), (1, 1))
        self.right(minus(great, great), (0, 1))
        self.right(ratio(great[0] * 6, great[1] * -6), (-great[0], great[1]))


if __name__ == "__main__":
    unittest.main()
