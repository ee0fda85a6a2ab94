"""[36], and what [5] and [37] say of SUM PAPERS whoever wrote them."""
import copy
import functools
import random
import unittest
from fractions import Fraction

from freshparts.errors import NoPaper
from freshparts.sumchecker import lets_sum

from byhand import COIN, FULL, GEOMETRIC, at, life, long_rows, middle, number, pair, things

BIT = Fraction(1, 10 ** 40)
LIVES = FULL + tuple(long_rows())


def lasts(told):
    """LASTING 0 to LASTING 61, Fractions."""
    found = [Fraction(1)]
    for k in range(1, 62):
        found.append(found[-1] - at(told, k))
    return found


@functools.lru_cache(maxsize=None)
def least(told, many):
    """The sum and the least missing, Fractions."""
    found = lasts(told)
    return (sum(found[:many], Fraction(0)), found[many] / (1 - number(told[1])))


def paper(told, many, off=0, missing_off=0):
    """A right one, but for what the sum and the missing are off."""
    total, missing = least(told, many)
    return (many, pair(total + off), pair(missing + missing_off))


class Checked(unittest.TestCase):
    def lets(self, told, thing):
        self.assertIs(lets_sum(told, thing), True, thing)

    def refuses(self, told, thing, word):
        with self.assertRaises(NoPaper) as caught:
            lets_sum(told, thing)
        refused = caught.exception
        self.assertIs(type(refused), NoPaper)
        self.assertEqual((refused.word, refused.place), (word, 0), thing)
        self.assertIs(type(refused.place), int)


class Papers(Checked):
    def test_by_written_numbers(self):
        self.lets(COIN, (2, (3, 2), (0, 1)))
        self.lets(COIN, (60, (3, 2), (0, 1)))
        self.lets(COIN, (2, (3, 2), (7, 1)))
        self.lets(GEOMETRIC, (1, (1, 1), (1, 1)))
        self.lets(GEOMETRIC, (3, (7, 4), (1, 4)))
        self.refuses(GEOMETRIC, (3, (7, 4), (1, 5)), "missing")
        self.refuses(GEOMETRIC, (3, (7, 4), (0, 1)), "missing")
        self.refuses(GEOMETRIC, (3, (2, 1), (1, 4)), "sum")
        self.refuses(GEOMETRIC, (0, (0, 1), (2, 1)), "many")
        self.refuses(COIN, (1, (1, 1), (1, 2)), "many")
        self.refuses(COIN, (2, (3, 2), (-1, 10)), "missing")
        # One LASTING is left behind the row, and one less step is a ninth: the missing is nine times it.
        self.lets(life("1/9", "8/9"), (1, (1, 1), (8, 1)))
        self.refuses(life("1/9", "8/9"), (1, (1, 1), (8, 9)), "missing")

    def test_many_as_long_as_the_row_one_less_and_sixty(self):
        for told in LIVES:
            long = len(told[0])
            for many in sorted({long, min(long + 1, 60), 60}):
                self.lets(told, paper(told, many))
            for many in sorted({0, long - 1}):
                self.refuses(told, paper(told, many), "many")
            self.refuses(told, paper(told, 61), "shape")
            self.refuses(told, (-1, *paper(told, 60)[1:]), "shape")

    def test_each_many(self):
        for told in (COIN, GEOMETRIC, life("1/2 1/2 0 0"), life("1/2 1/4 1/8 1/16", "1/2"), life("1/9", "8/9")):
            for many in range(61):
                if many < len(told[0]):
                    self.refuses(told, paper(told, many), "many")
                else:
                    self.lets(told, paper(told, many))

    def test_noughts_at_the_rows_end_count(self):
        self.refuses(life("1/2 1/2 0 0"), (2, (3, 2), (0, 1)), "many")
        self.refuses(life("1/2 1/2 0 0"), (3, (3, 2), (0, 1)), "many")
        self.lets(life("1/2 1/2 0 0"), (4, (3, 2), (0, 1)))
        self.refuses(life("1/2 1/4", "1/2"), (1, (1, 1), (1, 1)), "many")
        self.lets(life("1/2 1/4", "1/2"), (2, (3, 2), (1, 2)))

    def test_a_bit_off(self):
        for told in LIVES:
            for many in sorted({len(told[0]), 60}):
                self.refuses(told, paper(told, many, off=BIT), "sum")
                self.refuses(told, paper(told, many, off=-BIT), "sum")
                self.refuses(told, paper(told, many, missing_off=-BIT), "missing")
                self.lets(told, paper(told, many, missing_off=BIT))
                self.lets(told, paper(told, many, missing_off=1000))

    def test_sum_of_one_more_and_one_less(self):
        for many in range(2, 20):
            whole = paper(GEOMETRIC, many)
            self.refuses(GEOMETRIC, (many + 1, *whole[1:]), "sum")
            self.refuses(GEOMETRIC, (many - 1, *whole[1:]), "sum")

    def test_first_of_several(self):
        self.refuses(COIN, (1, (9, 1), (-1, 1)), "many")
        self.refuses(COIN, (2, (9, 1), (-1, 1)), "sum")
        self.refuses(COIN, (1, (9, 1), (2, 2)), "shape")
        self.refuses(COIN, (61, (9, 1), (-1, 1)), "shape")
        self.refuses(GEOMETRIC, (0, (9, 1), (-1, 1)), "many")


class Shape(Checked):
    def test_any_things(self):
        for thing in things():
            self.refuses(COIN, thing, "shape")
            self.refuses(GEOMETRIC, thing, "shape")

    def test_any_things_in_each_place(self):
        right = paper(COIN, 2)
        for place in range(3):
            for thing in things():
                if not (place == 0 and thing in (0, 1) and type(thing) is int):
                    self.refuses(COIN, right[:place] + (thing,) + right[place + 1:], "shape")

    def test_lists_and_other_lengths(self):
        many, whole, missing = right = paper(COIN, 2)
        for thing in (list(right), right[:2], right + ((0, 1),), (right,), [right], {0: right},
                      (many, list(whole), missing), (many, whole, list(missing)), ((many,), whole, missing),
                      (many, missing), right + right, (whole, missing, many), (many, whole, None)):
            self.refuses(COIN, thing, "shape")

    def test_many_that_is_no_such_number(self):
        whole, missing = paper(life("1"), 1)[1:]
        self.lets(life("1"), (1, whole, missing))
        for many in (True, False, "1", None, (1, 1), [1], -1, 61, 10 ** 199, -(10 ** 199), (1,)):
            self.refuses(life("1"), (many, whole, missing), "shape")

    def test_ratios_that_are_none(self):
        for wrong in ((True, 1), (1, True), (2, 2), (1, 0), (-1, -1), (False, 1), 1, True, "1", None, (1,), (1, 1, 1),
                      [1, 1], (0, 2)):
            self.refuses(life("1"), (1, wrong, (0, 1)), "shape")
            self.refuses(life("1"), (1, (1, 1), wrong), "shape")
        self.refuses(life("1"), (1, (1, 1), (False, 1)), "shape")


class Whoever(Checked):
    def test_let_by_or_refused_by_the_documents_words_and_what_is_let_by_is_so(self):
        chooser = random.Random(36)
        seen = set()
        for told in LIVES:
            for turn in range(25):
                many = chooser.choice((0, len(told[0]) - 1, len(told[0]), chooser.randrange(61), 60))
                off = chooser.choice((0, 0, 0, BIT, -BIT, Fraction(1, 7)))
                missing_off = chooser.choice((0, BIT, -BIT, 1, -1))
                thing = paper(told, many, off, missing_off)
                if many < len(told[0]):
                    due = "many"
                elif off != 0:
                    due = "sum"
                else:
                    due = "missing" if missing_off < 0 else None
                seen.add(due)
                if due is None:
                    self.lets(told, thing)
                    self.assertTrue(number(thing[1]) <= middle(told) <= number(thing[1]) + number(thing[2]))
                else:
                    self.refuses(told, thing, due)
        self.assertEqual(seen, {None, "many", "sum", "missing"})

    def test_what_is_handed_in_stays_as_it_was_and_the_same_is_told_twice(self):
        asked = [[2, [3, 2], [0, 1]], (2, [3, 2], {"a": [1]}), (1, (1, 1), (1, 2))]
        copies = copy.deepcopy(asked)
        for turn in range(2):
            for thing, word in zip(asked, ("shape", "shape", "many")):
                self.refuses(COIN, thing, word)
            self.lets(COIN, paper(COIN, 5))
        self.assertEqual(asked, copies)


if __name__ == "__main__":
    unittest.main()
