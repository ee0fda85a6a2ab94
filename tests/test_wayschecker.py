"""[22], [23], and what [5] and [24] say of WAYS PAPERS whoever wrote them."""
import copy
import random
import unittest
from fractions import Fraction

from freshparts.errors import NoPaper
from freshparts.wayschecker import lets_ways
from freshparts.wayspapers import ways_paper

from byhand import COIN, EMPTY, GEOMETRIC, SAMPLES, last, life, number, pair, put, things, way_chance, ways

BIT = Fraction(1, 10 ** 40)
ZERO, ONE = (0, 1), (1, 1)


def more(told, by=BIT):
    return pair(number(told) + by)


def hit_sum(told, hits):
    return sum((way_chance(told, way) for way in hits), Fraction(0))


def stand_sum(told, beat, stands):
    return sum((way_chance(told, way) * last(told, beat - sum(way)) for way in stands), Fraction(0))


def refusal(told, beat, paper):
    """Of a rightly shaped paper: the refusal that is due, by the document's words, or None."""
    low, high, hits, stands = paper
    for k, way in enumerate(hits):
        if sum(way) != beat or (k > 0 and not hits[k - 1] < way):
            return ("hit", k)
    for k, way in enumerate(stands):
        if sum(way) >= beat or (k > 0 and not stands[k - 1] < way):
            return ("stand", k)
    if number(low) > hit_sum(told, hits):
        return ("low", 0)
    if number(high) < 1 - stand_sum(told, beat, stands):
        return ("high", 0)
    return None


class Checked(unittest.TestCase):
    def lets(self, told, beat, paper):
        self.assertIs(lets_ways(told, beat, paper), True, paper)

    def refuses(self, told, beat, thing, word, place):
        with self.assertRaises(NoPaper) as caught:
            lets_ways(told, beat, thing)
        refused = caught.exception
        self.assertIs(type(refused), NoPaper)
        self.assertEqual((refused.word, refused.place), (word, place), thing)
        self.assertIs(type(refused.place), int)


class Papers(Checked):
    def test_no_hits_and_no_stands(self):
        for told in SAMPLES:
            for beat in (0, 1, 8, 20):
                self.lets(told, beat, (ZERO, ONE, (), ()))
                self.lets(told, beat, ((-1, 2), (3, 2), (), ()))
                self.refuses(told, beat, ((1, 10 ** 30), ONE, (), ()), "low", 0)
                self.refuses(told, beat, (ZERO, (10 ** 30 - 1, 10 ** 30), (), ()), "high", 0)

    def test_whole_ones_and_a_bit_beside_them(self):
        for told in SAMPLES:
            for beat in range(9):
                low, high, hits, stands = paper = ways_paper(told, beat)
                self.lets(told, beat, paper)
                self.refuses(told, beat, (more(low), high, hits, stands), "low", 0)
                self.refuses(told, beat, (low, more(high, -BIT), hits, stands), "high", 0)
                self.lets(told, beat, (more(low, -BIT), more(high), hits, stands))

    def test_all_ways_with_those_whose_chance_is_nought(self):
        for told in SAMPLES:
            for beat in range(7):
                hits = tuple(sorted(ways(beat)))
                stands = tuple(sorted(way for end in range(beat) for way in ways(end)))
                chance = pair(put(told, beat))
                self.lets(told, beat, (chance, chance, hits, stands))
                self.refuses(told, beat, (more(chance), chance, hits, stands), "low", 0)
                self.refuses(told, beat, (chance, more(chance, -BIT), hits, stands), "high", 0)

    def test_some_of_them(self):
        self.lets(COIN, 2, ((1, 2), ONE, ((2,),), ()))
        self.lets(COIN, 2, ((1, 4), ONE, ((1, 1),), ()))
        self.refuses(COIN, 2, ((3, 4), ONE, ((2,),), ()), "low", 0)
        self.lets(COIN, 2, (ZERO, (3, 4), (), ((1,),)))
        self.refuses(COIN, 2, (ZERO, (74, 99), (), ((1,),)), "high", 0)
        # Of () LASTING 2 is nought: it tells nothing of high.
        self.refuses(COIN, 2, (ZERO, (3, 4), (), ((),)), "high", 0)
        self.lets(COIN, 2, (ZERO, (3, 4), (), ((), (1,))))
        self.lets(GEOMETRIC, 3, ((1, 8), (7, 8), ((3,),), ((),)))

    def test_beat_nought(self):
        for told in SAMPLES:
            self.lets(told, 0, (ONE, ONE, ((),), ()))
            self.refuses(told, 0, (ONE, ONE, (), ()), "low", 0)
            self.refuses(told, 0, (more(ONE), ONE, ((),), ()), "low", 0)
            self.refuses(told, 0, (ONE, more(ONE, -BIT), ((),), ()), "high", 0)
            self.refuses(told, 0, (ONE, ONE, ((),), ((),)), "stand", 0)
            self.refuses(told, 0, (ONE, ONE, ((), ()), ()), "hit", 1)
            self.refuses(told, 0, (ONE, ONE, ((1,),), ()), "hit", 0)

    def test_beat_twenty(self):
        self.lets(GEOMETRIC, 20, ((1, 2 ** 20), ONE, ((1,) * 20,), ()))
        self.lets(GEOMETRIC, 20, (pair(Fraction(2, 2 ** 20)), ONE, ((1,) * 20, (20,)), ()))
        self.refuses(GEOMETRIC, 20, (pair(Fraction(3, 2 ** 20)), ONE, ((1,) * 20, (20,)), ()), "low", 0)
        self.lets(GEOMETRIC, 20, (ZERO, pair(Fraction(2 ** 20 - 2, 2 ** 20)), (), ((), (19,))))
        self.lets(EMPTY, 20, (ZERO, ZERO, (), ((),)))
        self.refuses(EMPTY, 20, (ZERO, (-1, 10 ** 9), (), ((),)), "high", 0)
        self.refuses(EMPTY, 20, (ZERO, ZERO, (), ((1,),)), "high", 0)

    def test_bounds_that_cross_what_is_so(self):
        # Low above high is refused only if one of both is wrong by itself.
        self.refuses(COIN, 2, (ONE, ZERO, (), ()), "low", 0)
        self.refuses(COIN, 2, (ZERO, ZERO, (), ()), "high", 0)


class Hits(Checked):
    def test_first_that_does_not_come_to_the_beat(self):
        for k in range(4):
            hits = [(1, 1, 1), (1, 2), (2, 1), (3,)]
            for wrong in ((), (1,), (4,), (1, 1, 1, 1), (10 ** 199,), (1, 1)):
                self.refuses(GEOMETRIC, 3, (ZERO, ONE, tuple(hits[:k] + [wrong] + hits[k + 1:]), ()), "hit", k)

    def test_told_twice_and_exchanged(self):
        hits = ((1, 1, 1), (1, 2), (2, 1), (3,))
        for k in range(4):
            self.refuses(GEOMETRIC, 3, (ZERO, ONE, hits[:k + 1] + hits[k:], ()), "hit", k + 1)
        for k in range(3):
            turned = hits[:k] + (hits[k + 1], hits[k]) + hits[k + 2:]
            self.refuses(GEOMETRIC, 3, (ZERO, ONE, turned, ()), "hit", k + 1)
        self.refuses(GEOMETRIC, 3, (ZERO, ONE, hits[::-1], ()), "hit", 1)
        self.refuses(GEOMETRIC, 3, (ZERO, ONE, hits + hits[:1], ()), "hit", 4)

    def test_first_of_several(self):
        self.refuses(COIN, 2, (ONE, ZERO, ((2,), (1, 1), (7,)), ((9,),)), "hit", 1)
        self.refuses(COIN, 2, (ONE, ZERO, ((1, 1), (2,), (7,), (1,)), ((9,),)), "hit", 2)
        self.refuses(COIN, 2, (ONE, ZERO, ((1,), (1,)), ((9,),)), "hit", 0)
        self.refuses(COIN, 2, (ONE, ZERO, ((1, 1), (2,)), ((9,),)), "stand", 0)
        self.refuses(COIN, 2, (ONE, ZERO, ((1, 1), (2,)), ((),)), "low", 0)
        self.refuses(COIN, 2, ((3, 4), ZERO, ((1, 1), (2,)), ((),)), "high", 0)

    def test_whose_chance_is_nought_is_looked_at_too(self):
        self.refuses(life("0 1"), 4, (ONE, ONE, ((1, 1, 1), (2, 2)), ()), "hit", 0)
        self.lets(life("0 1"), 4, (ONE, ONE, ((1, 1, 2), (2, 2)), ()))
        self.refuses(EMPTY, 3, (ZERO, ONE, ((3,), (1, 2)), ()), "hit", 1)


class Stands(Checked):
    def test_first_that_comes_to_no_beat_ahead(self):
        stands = [(), (1,), (1, 1), (2,)]
        for k in range(4):
            for wrong in ((3,), (1, 2), (4,), (10 ** 199,), (1,) * 30):
                self.refuses(GEOMETRIC, 3, (ZERO, ONE, (), tuple(stands[:k] + [wrong] + stands[k + 1:])), "stand", k)

    def test_told_twice_and_exchanged(self):
        stands = ((), (1,), (1, 1), (2,))
        self.lets(GEOMETRIC, 3, (ZERO, (1, 2), (), stands))
        for k in range(4):
            self.refuses(GEOMETRIC, 3, (ZERO, ONE, (), stands[:k + 1] + stands[k:]), "stand", k + 1)
        for k in range(3):
            turned = stands[:k] + (stands[k + 1], stands[k]) + stands[k + 2:]
            self.refuses(GEOMETRIC, 3, (ZERO, ONE, (), turned), "stand", k + 1)

    def test_hits_and_stands_exchanged(self):
        for told in SAMPLES:
            for beat in range(1, 9):
                low, high, hits, stands = ways_paper(told, beat)
                if stands:
                    self.refuses(told, beat, (low, high, stands, hits), "hit", 0)
                if hits:
                    self.refuses(told, beat, (ZERO, high, (), hits), "stand", 0)

    def test_first_of_several(self):
        self.refuses(COIN, 2, (ONE, ZERO, (), ((1,), (), (5,))), "stand", 1)
        self.refuses(COIN, 2, (ONE, ZERO, (), ((2,), (), (5,))), "stand", 0)


class Shape(Checked):
    def test_any_things(self):
        for thing in things():
            for beat in (0, 2, 20):
                self.refuses(COIN, beat, thing, "shape", 0)

    def test_any_things_in_each_place(self):
        paper = ways_paper(COIN, 2)
        for place in range(4):
            for thing in things():
                if not (place >= 2 and thing == ((),) or place >= 2 and thing == ((1,),)):
                    self.refuses(COIN, 2, paper[:place] + (thing,) + paper[place + 1:], "shape", 0)

    def test_any_things_among_the_ways(self):
        low, high, hits, stands = ways_paper(COIN, 2)
        for thing in things():
            self.refuses(COIN, 2, (low, high, (thing,) + hits, stands), "shape", 0)
            self.refuses(COIN, 2, (low, high, hits + (thing,), stands), "shape", 0)
            self.refuses(COIN, 2, (low, high, hits, stands + (thing,)), "shape", 0)

    def test_lists_and_other_lengths(self):
        low, high, hits, stands = paper = ways_paper(COIN, 2)
        for thing in (list(paper), paper[:3], paper + ((),), paper + paper, (paper,), [paper], {0: paper},
                      (low, high, list(hits), stands), (low, high, hits, list(stands)), (list(low), high, hits, stands),
                      (low, list(high), hits, stands), (low, high, ([1, 1], (2,)), stands), (low, high, hits, ([1],)),
                      (low, high, dict.fromkeys(hits), stands), (low, high, hits, None)):
            self.refuses(COIN, 2, thing, "shape", 0)

    def test_ratios_that_are_none(self):
        low, high, hits, stands = ways_paper(COIN, 2)
        for wrong in ((2, 4), (0, 2), (True, 1), (1, True), (False, 1), (1, 0), (1, -2), 0, 1, True, "0", None, (0,),
                      (1, 2, 3), (0, 10 ** 199), (1, 1, 1), ((0, 1), (0, 1))):
            self.refuses(COIN, 2, (wrong, high, hits, stands), "shape", 0)
            self.refuses(COIN, 2, (low, wrong, hits, stands), "shape", 0)

    def test_ways_that_are_none(self):
        low, high, hits, stands = ways_paper(COIN, 2)
        for wrong in ((0,), (True, 1), (1, True), (3, -1), (2, 0), [2], "2", 2, None, ((2,),), (True,), (False, 2)):
            self.refuses(COIN, 2, (low, high, (wrong,), stands), "shape", 0)
            self.refuses(COIN, 2, (low, high, hits + (wrong,), stands), "shape", 0)
            self.refuses(COIN, 2, (low, high, hits, (wrong,)), "shape", 0)
            self.refuses(COIN, 2, (low, high, hits, stands + (wrong,)), "shape", 0)

    def test_shape_goes_ahead_of_all_else(self):
        self.refuses(COIN, 2, (ONE, ZERO, ((7,), (7,)), ((9,), (0,))), "shape", 0)
        self.refuses(COIN, 2, ((2, 2), ZERO, ((7,), (7,)), ()), "shape", 0)

    def test_two_hundred_ways_and_one_more(self):
        hits = tuple(sorted(ways(9)))
        stands = tuple(sorted(way for end in range(9) for way in ways(end)))
        self.assertEqual((len(hits), len(stands)), (256, 256))
        for told in (GEOMETRIC, life("1/3", "1/2"), EMPTY):
            low = pair(hit_sum(told, hits[:200]))
            high = pair(1 - stand_sum(told, 9, stands[:200]))
            self.lets(told, 9, (low, high, hits[:200], stands[:200]))
            self.refuses(told, 9, (more(low), high, hits[:200], stands[:200]), "low", 0)
            self.refuses(told, 9, (low, more(high, -BIT), hits[:200], stands[:200]), "high", 0)
            self.refuses(told, 9, (low, high, hits[:201], stands[:200]), "shape", 0)
            self.refuses(told, 9, (low, high, hits[:200], stands[:201]), "shape", 0)
        self.refuses(GEOMETRIC, 9, (ZERO, ONE, hits[:199] + hits[198:199], ()), "hit", 199)
        self.refuses(GEOMETRIC, 9, (ZERO, ONE, (), stands[:199] + ((9,),)), "stand", 199)
        self.refuses(GEOMETRIC, 9, (ZERO, ONE, ((1,),) * 201, ()), "shape", 0)
        self.refuses(GEOMETRIC, 9, (ZERO, ONE, ((1,),) * 200, ()), "hit", 0)


class Whoever(Checked):
    def papers(self, told, beat, chooser):
        """Papers written by chance: right ones, and ones with something off."""
        for turn in range(12):
            hits = [way for way in sorted(ways(beat)) if chooser.random() < 0.7]
            stands = sorted(way for end in range(beat) for way in ways(end) if chooser.random() < 0.7)
            for row in (hits, stands):
                if row and chooser.random() < 0.3:
                    row.insert(chooser.randrange(len(row) + 1), chooser.choice(row))
                if row and chooser.random() < 0.2:
                    row[chooser.randrange(len(row))] = chooser.choice(ways(chooser.randrange(beat + 2)))
            low = hit_sum(told, hits) + chooser.choice((0, 0, BIT, -BIT, 1, -2))
            high = 1 - stand_sum(told, beat, [way for way in stands if sum(way) <= beat])
            high += chooser.choice((0, 0, BIT, -BIT, 1, -2))
            yield (pair(low), pair(high), tuple(hits), tuple(stands))

    def test_let_by_or_refused_by_the_documents_words_and_what_is_let_by_is_so(self):
        chooser = random.Random(22)
        seen = set()
        for told in SAMPLES:
            for beat in range(6):
                for paper in self.papers(told, beat, chooser):
                    due = refusal(told, beat, paper)
                    seen.add(due and due[0])
                    if due is None:
                        self.lets(told, beat, paper)
                        self.assertTrue(number(paper[0]) <= put(told, beat) <= number(paper[1]))
                    else:
                        self.refuses(told, beat, paper, *due)
        self.assertEqual(seen, {None, "hit", "stand", "low", "high"})


class Kept(Checked):
    def test_what_is_handed_in_stays_as_it_was_and_the_same_is_told_twice(self):
        papers = [[list(way) for way in ways(3)], (ONE, ZERO, [(3,)], ()), ({"a": [1]}, [2], [], [[]]),
                  ((2, 3), (2, 3), ((3,), (1, 2)), ())]
        copies = copy.deepcopy(papers)
        for turn in range(2):
            for paper, word, place in zip(papers, ("shape", "shape", "shape", "hit"), (0, 0, 0, 1)):
                self.refuses(COIN, 3, paper, word, place)
            self.lets(COIN, 2, ways_paper(COIN, 2))
        self.assertEqual(papers, copies)


if __name__ == "__main__":
    unittest.main()
