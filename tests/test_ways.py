"""[3] WAY and [21]."""
import unittest
from fractions import Fraction

from freshparts.making import behind
from freshparts.puts import puts
from freshparts.ratios import is_ratio
from freshparts.rows import added
from freshparts.ways import all_ways, is_way, way_chance

from byhand import COIN, EMPTY, GEOMETRIC, SAMPLES, life, pair, things, ways
from byhand import way_chance as chance_by_hand

GREAT = 10 ** 200 - 1


class IsWay(unittest.TestCase):
    def test_right_ones(self):
        for thing in ((), (1,), (2, 1), (1, 1), (20,), (40,), (41, 7), (GREAT,), (1, GREAT), (GREAT,) * 100,
                      (1,) * 40, (1,) * 1990, tuple(range(1, 60))):
            self.assertIs(is_way(thing), True, thing)

    def test_noughts_and_numbers_below(self):
        for thing in ((0,), (-1,), (1, 0), (0, 1), (1, -1), (2, -1, 2), (-GREAT,), (1,) * 39 + (0,), (0,) + (1,) * 39,
                      (1,) * 1989 + (0,), (3, 0, 3)):
            self.assertIs(is_way(thing), False, thing)

    def test_truths_are_no_numbers(self):
        for thing in ((True,), (False,), (1, True), (True, 1), (2, False), (1,) * 39 + (True,)):
            self.assertIs(is_way(thing), False, thing)

    def test_lists_and_other_things(self):
        for thing in ([], [1], [1, 2], {}, {1: 2}, "", "1", "11", None, True, False, 0, 1, 7, GREAT, (None,), ("1",),
                      (1, "1"), ((1,),), ([1],), ((),), (1, ()), (1, [2]), ({},), ((1, 2),), (1, None)):
            self.assertIs(is_way(thing), False, thing)

    def test_any_things(self):
        for thing in things():
            self.assertIs(is_way(thing), False, thing)

    def test_nothing_is_changed(self):
        thing = ([1], {"a": [2]})
        is_way(thing)
        self.assertEqual(thing, ([1], {"a": [2]}))


class WayChance(unittest.TestCase):
    def right(self, told, way, expected):
        found = way_chance(told, way)
        self.assertEqual(found, pair(Fraction(expected)))
        self.assertIs(type(found), tuple)
        self.assertTrue(is_ratio(found))

    def test_no_stretch(self):
        for told in SAMPLES:
            self.right(told, (), 1)

    def test_by_written_numbers(self):
        self.right(COIN, (1,), "1/2")
        self.right(COIN, (2, 1), "1/4")
        self.right(COIN, (3,), 0)
        self.right(COIN, (1, 3, 1), 0)
        self.right(GEOMETRIC, (3, 1, 2), "1/64")
        self.right(EMPTY, (1,), 0)
        self.right(life("1/3 2/3"), (1, 2, 2), "4/27")
        self.right(life("2/3 1/4"), (1, 2), "1/6")
        self.right(life("1"), (1, 1, 1), 1)
        self.right(life("1/5 1/10", "1/3"), (3, 4, 1), Fraction(1, 30 * 90 * 5))

    def test_one_stretch_of_forty_and_forty_of_one(self):
        self.right(GEOMETRIC, (40,), Fraction(1, 2 ** 40))
        self.right(GEOMETRIC, (1,) * 40, Fraction(1, 2 ** 40))
        self.right(COIN, (40,), 0)
        self.right(life("1"), (1,) * 40, 1)
        for told in SAMPLES:
            for way in ((40,), (1,) * 40, (2,) * 20, (20, 20), (12, 13, 15), (39, 1), (1, 39), (3,) * 13):
                self.right(told, way, chance_by_hand(told, way))

    def test_samples(self):
        for told in SAMPLES:
            for beat in range(8):
                for way in ways(beat):
                    self.right(told, way, chance_by_hand(told, way))

    def test_order_of_the_stretches_does_not_matter_and_the_same_is_told_twice(self):
        told, way = life("1/5 1/10", "1/3"), (3, 4, 1, 1)
        self.assertEqual(way_chance(told, way), way_chance(told, way[::-1]))
        self.assertEqual(way_chance(told, way), way_chance(told, way))
        self.assertEqual((told, way), (life("1/5 1/10", "1/3"), (3, 4, 1, 1)))


class AllWays(unittest.TestCase):
    def test_by_written_numbers(self):
        for told, beat, expected in (
                (COIN, 0, [()]), (COIN, 1, [(1,)]), (COIN, 2, [(1, 1), (2,)]), (COIN, 3, [(1, 1, 1), (1, 2), (2, 1)]),
                (GEOMETRIC, 3, [(1, 1, 1), (1, 2), (2, 1), (3,)]), (EMPTY, 0, [()]), (EMPTY, 1, []), (EMPTY, 8, []),
                (life("0 0"), 2, []), (life("0", "1/2"), 2, []), (life("1"), 8, [(1,) * 8]), (life("0 1"), 7, []),
                (life("0 1"), 8, [(2, 2, 2, 2)]), (life("0 1/3 1/3"), 5, [(2, 3), (3, 2)]),
                (life("1/2 1/2 0 0"), 2, [(1, 1), (2,)]), (life("1/2 0", "1/2"), 2, [(1, 1)])):
            found = all_ways(told, beat)
            self.assertEqual(found, expected)
            self.assertIs(type(found), list)

    def test_samples(self):
        for told in SAMPLES:
            for beat in range(9):
                found = all_ways(told, beat)
                self.assertEqual(found, sorted(way for way in ways(beat) if chance_by_hand(told, way) != 0))
                self.assertIs(type(found), list)
                for way in found:
                    self.assertIs(type(way), tuple)
                    self.assertIs(is_way(way), True)
                    self.assertEqual(sum(way), beat)

    def test_all_at_beat_eight(self):
        self.assertEqual(len(all_ways(GEOMETRIC, 8)), 128)
        self.assertEqual(all_ways(GEOMETRIC, 8)[0], (1,) * 8)
        self.assertEqual(all_ways(GEOMETRIC, 8)[-1], (8,))

    def test_their_chances_added_are_put(self):
        for told in SAMPLES:
            for beat in range(9):
                chances = [way_chance(told, way) for way in all_ways(told, beat)]
                self.assertEqual(added(chances), puts(told, beat)[beat])

    def test_told_lives_may_be_handed_in_again(self):
        twice = behind(COIN, COIN)
        self.assertEqual(all_ways(twice, 4), [(2, 2), (4,)])
        self.assertEqual(way_chance(twice, (2, 3)), (1, 8))

    def test_a_told_list_is_the_askers_own(self):
        for beat in (0, 3):
            first = all_ways(COIN, beat)
            copy = list(first)
            first.append("mine")
            first[0] = None
            again = all_ways(COIN, beat)
            self.assertEqual(again, copy)
            again.clear()
            self.assertEqual(all_ways(COIN, beat), copy)
            self.assertEqual(all_ways(COIN, 3), [(1, 1, 1), (1, 2), (2, 1)])


if __name__ == "__main__":
    unittest.main()
