"""[24]: the whole WAYS PAPER."""
import unittest

from freshparts.puts import puts
from freshparts.ratios import is_ratio
from freshparts.wayschecker import lets_ways
from freshparts.wayspapers import ways_paper

from byhand import COIN, EMPTY, GEOMETRIC, SAMPLES, last, life, pair, put, way_chance, ways


class WaysPaper(unittest.TestCase):
    def test_at_beat_nought(self):
        for told in SAMPLES:
            self.assertEqual(ways_paper(told, 0), ((1, 1), (1, 1), ((),), ()))

    def test_by_written_numbers(self):
        self.assertEqual(ways_paper(COIN, 1), ((1, 2), (1, 2), ((1,),), ((),)))
        self.assertEqual(ways_paper(COIN, 2), ((3, 4), (3, 4), ((1, 1), (2,)), ((1,),)))
        self.assertEqual(ways_paper(COIN, 3), ((5, 8), (5, 8), ((1, 1, 1), (1, 2), (2, 1)), ((1, 1), (2,))))
        self.assertEqual(ways_paper(GEOMETRIC, 2), ((1, 2), (1, 2), ((1, 1), (2,)), ((), (1,))))
        self.assertEqual(ways_paper(EMPTY, 8), ((0, 1), (0, 1), (), ((),)))
        self.assertEqual(ways_paper(life("1"), 3), ((1, 1), (1, 1), ((1, 1, 1),), ()))
        self.assertEqual(ways_paper(life("0 1"), 3), ((0, 1), (0, 1), (), ((2,),)))
        self.assertEqual(ways_paper(life("1/3 0"), 2), ((1, 9), (1, 9), ((1, 1),), ((), (1,))))
        self.assertEqual(ways_paper(life("1/2 1/2 0 0"), 2), ways_paper(COIN, 2))

    def test_samples(self):
        for told in SAMPLES:
            for beat in range(9):
                found = ways_paper(told, beat)
                low, high, hits, stands = found
                self.assertEqual((low, high), (pair(put(told, beat)),) * 2)
                self.assertEqual(low, puts(told, beat)[beat])
                self.assertEqual(hits, tuple(sorted(way for way in ways(beat) if way_chance(told, way) != 0)))
                over = [way for end in range(beat) for way in ways(end)
                        if way_chance(told, way) != 0 and last(told, beat - end) != 0]
                self.assertEqual(stands, tuple(sorted(over)))
                for part in (found, low, high, hits, stands, *hits, *stands):
                    self.assertIs(type(part), tuple)
                self.assertTrue(is_ratio(low) and is_ratio(high))

    def test_it_is_let_by(self):
        for told in SAMPLES:
            for beat in range(9):
                self.assertIs(lets_ways(told, beat, ways_paper(told, beat)), True)

    def test_all_ways_at_beat_eight(self):
        low, high, hits, stands = ways_paper(GEOMETRIC, 8)
        self.assertEqual((len(hits), len(stands)), (128, 128))

    def test_the_same_is_told_twice(self):
        first = [ways_paper(told, 6) for told in SAMPLES]
        again = [ways_paper(told, 6) for told in reversed(SAMPLES)]
        self.assertEqual(first, again[::-1])


if __name__ == "__main__":
    unittest.main()
