"""[50], [51], and what [5] says of LENT ones."""
import copy
import random
import unittest
from fractions import Fraction

from freshparts.kindputs import kind_puts
from freshparts.kinds import chain, is_kinds, kind_life, lent
from freshparts.lives import is_life, short
from freshparts.making import behind, left_of
from freshparts.puts import puts

from byhand import ALL_KINDS, COIN, EMPTY, kinds, life, number, pair, things
from telling import Told

GREAT = 10 ** 199 + 153


class IsKinds(unittest.TestCase):
    def yes(self, thing):
        self.assertIs(is_kinds(thing), True, thing)

    def no(self, thing):
        self.assertIs(is_kinds(thing), False, thing)

    def test_kinds_of_all_sorts(self):
        for told in ALL_KINDS:
            self.yes(told)

    def test_one_to_four_kinds(self):
        self.no(())
        for many in range(1, 5):
            self.yes(((),) * many)
            self.yes((((1, many - 1, (1, 1)),),) + ((),) * (many - 1))
        self.no(((),) * 5)
        self.no((((1, 0, (1, 1)),),) * 5)

    def test_stretches_from_one_to_six(self):
        for stretch in range(1, 7):
            self.yes((((stretch, 0, (1, 2)),),))
        for stretch in (0, 7, -1, GREAT, -GREAT, True, "1", None, (1,), [1], (1, 1)):
            self.no((((stretch, 0, (1, 2)),),))

    def test_next_is_a_kinds_number(self):
        for many in range(1, 5):
            rest = ((),) * (many - 1)
            for follower in range(many):
                self.yes((((1, follower, (1, 2)),),) + rest)
                self.yes(rest + (((1, follower, (1, 2)),),))
            for follower in (many, -1, 4, GREAT, True, False, "0", None, (0,), [0]):
                self.no((((1, follower, (1, 2)),),) + rest)
                self.no(rest + (((1, follower, (1, 2)),),))

    def test_chance_above_nought(self):
        for chance in ((1, 1), (1, 999), (GREAT - 1, GREAT), (1, GREAT)):
            self.yes((((1, 0, chance),),))
        for chance in ((0, 1), (-1, 2), (2, 1), (GREAT + 1, GREAT), (2, 4), (1, 0), (-1, -2), (True, 1), (1, True),
                       (False, 1), True, 1, "1", "1/2", None, (1,), (1, 2, 3), [1, 2], ((1, 2),), {1: 2}):
            self.no((((1, 0, chance),),))
            self.no((((1, 0, (1, 4)), (2, 0, chance)),))

    def test_triples_rise_by_stretch_and_next(self):
        bit = (1, 24)
        marks = [(stretch, follower) for stretch in range(1, 7) for follower in range(4)]
        self.yes((tuple((*mark, bit) for mark in marks), (), (), ()))
        for one in marks:
            for other in marks:
                told = (((*one, bit), (*other, bit)), (), (), ())
                self.assertIs(is_kinds(told), one < other, told)

    def test_like_ones_whatever_their_chances(self):
        self.no(kinds("1>0:1/4 1>0:1/2"))
        self.no(kinds("1>0:1/2 1>0:1/4"))
        self.no(kinds("1>0:1/4 1>0:1/4"))
        self.no(kinds("1>0:1/4 2>0:1/4 1>0:1/4"))
        self.no(kinds("1>0:1/4", "2>1:1/4 2>0:1/4"))
        self.yes(kinds("1>0:1/2 2>0:1/4"))
        self.yes(kinds("1>0:1/4 2>0:1/2"))

    def test_together_just_one_and_a_bit_more(self):
        for many in (2, 3, 5, 6):
            row = tuple((k, 0, (1, many)) for k in range(1, many + 1))
            self.yes((row,))
            self.no((row[:-1] + ((many, 0, pair(Fraction(1, many) + Fraction(1, GREAT))),),))
            self.yes((row[:-1] + ((many, 0, pair(Fraction(1, many) - Fraction(1, GREAT))),),))
        self.yes((((1, 0, (GREAT - 1, GREAT)), (2, 0, (1, GREAT))),))
        self.no((((1, 0, (GREAT - 1, GREAT)), (2, 0, (1, GREAT - 1))),))
        self.no((((1, 0, (1, GREAT)), (2, 0, (GREAT, GREAT + 1))),))
        self.yes((((1, 0, (1, GREAT + 1)), (2, 0, (GREAT - 1, GREAT))),))
        bottoms = [GREAT + 2 * k for k in range(24)]
        marks = [(stretch, follower) for stretch in range(1, 7) for follower in range(4)]
        self.yes((tuple((*mark, (1, bottom)) for mark, bottom in zip(marks, bottoms)), (), (), ()))
        self.no(((), (), (), tuple((*mark, (bottom - 1, bottom)) for mark, bottom in zip(marks, bottoms))))
        # Each kind by itself: several kinds may have one each.
        self.yes(kinds("1>0:1", "1>0:1", "1>0:1", "1>0:1"))

    def test_any_things(self):
        for thing in things():
            if thing != ((),):
                self.no(thing)
            self.no([thing])
            self.no((thing, thing, thing, thing, thing))
        self.yes(((),))

    def test_any_things_at_any_place(self):
        right = kinds("1>0:1/2 3>1:1/4", "", "2>2:1")
        self.yes(right)
        for thing in things():
            if thing != ():
                for place in range(3):
                    self.no(right[:place] + (thing,) + right[place + 1:])
            self.no(((thing,), (), ()))
            self.no(((right[0][0], thing), (), ()))
            for place in range(3):
                for triple in right[0]:
                    wrong = triple[:place] + (thing,) + triple[place + 1:]
                    if not (place < 2 and type(thing) is int):
                        self.no(((wrong,), (), ()))
            if type(thing) is not int:
                self.no((((1, 0, (1, thing)),),))
                self.no((((1, 0, (thing, 2)),),))

    def test_lists_in_the_place_of_tuples(self):
        self.yes(kinds("1>0:1"))
        for thing in ([((1, 0, (1, 1)),)], ([(1, 0, (1, 1))],), (([1, 0, (1, 1)],),), (((1, 0, [1, 1]),),),
                      {0: ((1, 0, (1, 1)),)}, ({(1, 0, (1, 1)): 1},), [[]], ([],), ((), []), "1>0:1", ["1>0:1"],
                      ("1>0:1",), ((1, 0, (1, 1)),), (((1, 0),),), (((1, 0, (1, 1), 0),),), ((((1, 0, (1, 1)),),),),
                      (("1>0:1",),), (("abc",),), (((), ),), ((((), (), ()),),)):
            self.no(thing)

    def test_truths_in_the_place_of_numbers(self):
        for thing in ((((True, 0, (1, 1)),),), (((1, False, (1, 1)),),), (((1, 0, (True, 1)),),),
                      (((1, 0, (1, True)),),), (((1, True, (1, 1)),), ()), (True,), (False,), (None,)):
            self.no(thing)

    def test_things_by_chance_as_the_document_says(self):
        chooser = random.Random(50)
        seen = {True: 0, False: 0}
        for turn in range(3000):
            many = chooser.randrange(1, 5)
            thing = tuple(tuple(sorted((chooser.randrange(1, 7), chooser.randrange(many),
                                        pair(Fraction(chooser.randrange(1, 4), chooser.randrange(3, 9))))
                                       for turn in range(chooser.randrange(4)))) for kind in range(many))
            due = all(len({one[:2] for one in kind}) == len(kind) and sum(number(one[2]) for one in kind) <= 1
                      for kind in thing)
            self.assertIs(is_kinds(thing), due, thing)
            seen[due] += 1
        self.assertTrue(seen[True] > 300 and seen[False] > 300)

    def test_what_is_asked_stays_as_it_was(self):
        asked = [[1, 0, [1, 1]], ([(1, 0, (1, 1))],), {"a": [1]}, (((1, 0, [1, 1]),),)]
        copies = copy.deepcopy(asked)
        for thing in asked * 2:
            self.no(thing)
        self.assertEqual(asked, copies)


class Chain(Told):
    def test_by_written_numbers(self):
        self.assertEqual(chain(kinds("")), (((0, 1),),))
        self.assertEqual(chain(kinds("1>0:1/2 2>0:1/4")), (((3, 4),),))
        self.assertEqual(chain(kinds("1>0:1/2 1>1:1/4 2>1:1/8", "")), (((1, 2), (3, 8)), ((0, 1), (0, 1))))
        self.assertEqual(chain(kinds("1>1:1/3 3>1:1/3 6>1:1/3", "2>0:1")), (((0, 1), (1, 1)), ((1, 1), (0, 1))))

    def test_all_triples_to_the_same_next_one(self):
        for told in ALL_KINDS:
            found = chain(told)
            self.assertIs(type(found), tuple)
            self.assertEqual(len(found), len(told))
            for kind, row in zip(told, found):
                self.right(row, [sum((number(one[2]) for one in kind if one[1] == follower), Fraction(0))
                                 for follower in range(len(told))])

    def test_the_same_is_told_twice(self):
        copies = copy.deepcopy(ALL_KINDS)
        self.assertEqual([chain(told) for told in ALL_KINDS], [chain(told) for told in ALL_KINDS])
        self.assertEqual(ALL_KINDS, copies)


class KindLife(Told):
    def test_by_written_numbers(self):
        told = kinds("1>0:1/2 1>1:1/4 3>1:1/8", "", "6>0:1")
        self.assertEqual(kind_life(told, 0), (((3, 4), (0, 1), (1, 8)), (0, 1)))
        self.assertEqual(kind_life(told, 1), EMPTY)
        self.assertEqual(kind_life(told, 2), (((0, 1),) * 5 + ((1, 1),), (0, 1)))

    def test_short_lives_of_all_triples_of_the_same_stretch(self):
        for told in ALL_KINDS:
            for kind, triples in enumerate(told):
                found = kind_life(told, kind)
                self.assertTrue(is_life(found))
                self.assertEqual(found, short(found))
                self.assertEqual((type(found), type(found[0])), (tuple, tuple))
                self.assertEqual(found[1], (0, 1))
                self.right(found[0], [sum((number(one[2]) for one in triples if one[0] == k), Fraction(0))
                                      for k in range(1, len(found[0]) + 1)])
                self.assertEqual(len(found[0]), max([one[0] for one in triples], default=0))

    def test_great_numbers(self):
        told = (((1, 0, (1, GREAT)), (1, 1, (GREAT - 1, GREAT))), ((2, 0, (1, GREAT)), (2, 1, (1, GREAT + 2))))
        self.assertTrue(is_kinds(told))
        self.assertEqual(kind_life(told, 0), life("1"))
        self.right(kind_life(told, 1)[0], [0, Fraction(1, GREAT) + Fraction(1, GREAT + 2)])


class Lent(Told):
    SHORTS = (EMPTY, COIN, life("1"), life("0 1"), life("1/3"), life("0 0 1/3 0 0 2/3"), life("1/2 1/4"),
              life("0 1/3 0 1/3"), life("1/6 1/6 1/6 1/6 1/6 1/6"), life("1/999999937 0 3/100000007"))
    LONGS = (life("0"), life("0 0 0 0 0 0"), life("1/2 1/2 0 0"), life("1/2 0 1/4 0 0 0"), life("0 1/7 0 0 0 0"))

    def test_by_written_numbers(self):
        self.assertEqual(lent(COIN, life("0 1/3 0")), (((1, 1, (1, 2)), (2, 1, (1, 2))), ((2, 0, (1, 3)),)))
        self.assertEqual(lent(EMPTY, EMPTY), ((), ()))
        self.assertEqual(lent(EMPTY, life("1")), ((), ((1, 0, (1, 1)),)))
        self.assertEqual(lent(life("1"), EMPTY), (((1, 1, (1, 1)),), ()))
        self.assertEqual(lent(life("0 0 0"), life("0 0 0 0 0 1")), ((), ((6, 0, (1, 1)),)))

    def test_kinds_that_follow_one_another(self):
        for home in self.SHORTS + self.LONGS:
            for out in self.SHORTS + self.LONGS:
                found = lent(home, out)
                self.assertIs(is_kinds(found), True)
                self.assertEqual(len(found), 2)
                self.assertEqual([type(kind) for kind in found], [tuple, tuple])
                self.assertEqual(kind_life(found, 0), short(home))
                self.assertEqual(kind_life(found, 1), short(out))
                self.assertEqual([one[1] for one in found[0]], [1] * len(found[0]))
                self.assertEqual([one[1] for one in found[1]], [0] * len(found[1]))

    def test_kind_0_is_put_as_by_the_life_behind_of_both(self):
        for home in self.SHORTS + self.LONGS:
            for out in self.SHORTS + self.LONGS:
                both = puts(behind(home, out), 20)
                self.assertEqual(tuple(row[0] for row in kind_puts(lent(home, out), 0, 20)), both)

    def test_told_lives_may_be_handed_in_again(self):
        home = left_of(life("1/999999937 1/3 3/100000007 1/7 1/123456789"), 1)
        found = lent(home, home)
        self.assertIs(is_kinds(found), True)
        self.assertEqual(kind_life(found, 1), home)

    def test_the_same_is_told_twice(self):
        copies = copy.deepcopy(self.LONGS)
        for home in self.LONGS:
            self.assertEqual(lent(home, COIN), lent(home, COIN))
        self.assertEqual(self.LONGS, copies)


if __name__ == "__main__":
    unittest.main()
