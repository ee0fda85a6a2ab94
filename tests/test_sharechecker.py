"""[53], [54], and what [5] says of SHARE PAPERS and APART PAPERS whoever wrote them."""
import copy
import itertools
import random
import unittest
from fractions import Fraction

from freshparts.errors import FreshError, NoPaper
from freshparts.sharechecker import lets_share
from freshparts.sharing import share_told

from byhand import FULL_KINDS, kinds, number, pair, plain_chain, things

BIT = Fraction(1, 10 ** 60)
GREAT = 10 ** 199 + 153
RING = kinds("1>1:1", "1>2:1", "1>0:1")
HALVES = kinds("1>0:1/2 1>1:1/2", "3>0:2/3 6>0:1/3")
# Kind 0 leads to itself and 1, kind 1 to 0 alone, kind 2 to 0 and 1, kind 3 to 2.
FOUR = kinds("1>0:1/2 1>1:1/2", "1>0:1", "1>0:1/3 2>1:2/3", "5>2:1")
FOUR_WEIGHTS = ((2, 3), (1, 3), (0, 1), (0, 1))
# Kinds 0 and 1 lead to one another, so do 2 and 3.
TWO_RINGS = kinds("1>1:1", "1>0:1", "2>3:1", "2>2:1")
# Kind 0 leads to 1 and 2, which lead each to itself; 3 leads to all but 2.
SPLIT = kinds("1>1:1/2 1>2:1/2", "1>1:1", "1>2:1", "1>0:1/3 1>1:1/3 1>3:1/3")


def due(told, thing):
    """What the document says of a thing of the right shape: its word, or the refusal's word and place."""
    rows = plain_chain(told)
    many = range(len(told))
    if thing[0] == "apart":
        for kind in many:
            if kind in thing[1] and kind in thing[2]:
                return ("both", kind)
        for group in thing[1:]:
            for kind in many:
                if kind in group and any(rows[kind][follower] > 0 for follower in many if follower not in group):
                    return ("out", kind)
        return "apart"
    word, home, weights, ways = thing
    weights = [number(weight) for weight in weights]
    if sum(weights) != 1:
        return ("whole", 0)
    for kind in many:
        if weights[kind] != sum(weights[other] * rows[other][kind] for other in many):
            return ("weight", kind)
    for place, (kind, follower) in enumerate(ways):
        ahead = [first for first, last in ways[:place]]
        if kind == home or kind in ahead:
            return ("way", place)
        if not rows[kind][follower] > 0:
            return ("way", place)
        if follower != home and follower not in ahead:
            return ("way", place)
    for kind in many:
        if kind != home and kind not in [first for first, last in ways]:
            return ("lacks", kind)
    return "share"


def all_ways(many, most=3):
    pairs = list(itertools.product(range(many), repeat=2))
    return [ways for long in range(most + 1) for ways in itertools.product(pairs, repeat=long)]


def groups(many):
    return [group for long in range(1, many + 1) for group in itertools.combinations(range(many), long)]


class Checked(unittest.TestCase):
    def lets(self, told, thing, word):
        found = lets_share(told, thing)
        self.assertEqual(found, word)
        self.assertIs(type(found), str)

    def refuses(self, told, thing, word, place):
        with self.assertRaises(FreshError) as caught:
            lets_share(told, thing)
        refused = caught.exception
        self.assertIs(type(refused), NoPaper)
        self.assertEqual((refused.word, refused.place), (word, place), thing)
        self.assertIs(type(refused.place), int)

    def as_due(self, told, thing):
        expected = due(told, thing)
        if isinstance(expected, str):
            self.lets(told, thing, expected)
        else:
            self.refuses(told, thing, *expected)
        return expected


class SharePapers(Checked):
    def test_by_written_numbers(self):
        self.lets(kinds("1>0:1"), ("share", 0, ((1, 1),), ()), "share")
        self.lets(HALVES, ("share", 0, ((2, 3), (1, 3)), ((1, 0),)), "share")
        self.lets(HALVES, ("share", 1, ((2, 3), (1, 3)), ((0, 1),)), "share")
        third = ((1, 3),) * 3
        self.lets(RING, ("share", 0, third, ((2, 0), (1, 2))), "share")
        self.lets(RING, ("share", 1, third, ((0, 1), (2, 0))), "share")
        self.lets(FOUR, ("share", 0, FOUR_WEIGHTS, ((1, 0), (2, 1), (3, 2))), "share")
        self.lets(FOUR, ("share", 0, FOUR_WEIGHTS, ((2, 0), (3, 2), (1, 0))), "share")
        self.lets(FOUR, ("share", 1, FOUR_WEIGHTS, ((0, 1), (2, 0), (3, 2))), "share")

    def test_whole(self):
        for weights in (((0, 1), (0, 1)), ((4, 3), (2, 3)), ((1, 3), (1, 6)), ((-2, 3), (-1, 3)), ((1, 1), (1, 3)),
                        (pair(Fraction(2, 3) + BIT), (1, 3)), ((2, 3), pair(Fraction(1, 3) - BIT)),
                        ((GREAT, 1), (GREAT, 2))):
            self.refuses(HALVES, ("share", 0, weights, ((1, 0),)), "whole", 0)
            self.refuses(HALVES, ("share", 0, weights, ((0, 0), (1, 1))), "whole", 0)
        self.refuses(kinds("1>0:1"), ("share", 0, ((2, 1),), ()), "whole", 0)

    def test_weight(self):
        ways = ((1, 0), (2, 1), (3, 2))
        self.refuses(HALVES, ("share", 0, ((1, 1), (0, 1)), ((1, 0),)), "weight", 0)
        self.refuses(HALVES, ("share", 0, ((-1, 1), (2, 1)), ((1, 0),)), "weight", 0)
        self.refuses(HALVES, ("share", 0, (pair(Fraction(2, 3) + BIT), pair(Fraction(1, 3) - BIT)), ()), "weight", 0)
        self.refuses(FOUR, ("share", 0, ((2, 3), (1, 3), (1, 9), (-1, 9)), ways), "weight", 0)
        self.refuses(FOUR, ("share", 0, ((2, 3), (1, 3), (-1, 9), (1, 9)), ways), "weight", 0)
        # Kind 0 leads to itself, kinds 1 and 2 to one another by chances: what is right of kind 0 is wrong of 1.
        told = kinds("1>0:1", "1>1:1/2 1>2:1/2", "1>1:1/3 1>2:2/3")
        self.refuses(told, ("share", 0, ((1, 2), (1, 4), (1, 4)), ()), "weight", 1)
        told = kinds("1>0:1", "1>1:1", "1>2:1/2 1>3:1/2", "1>2:1/3 1>3:2/3")
        self.refuses(told, ("share", 0, ((1, 2), (1, 4), (1, 8), (1, 8)), ()), "weight", 2)
        self.refuses(told, ("share", 0, ((1, 2), (1, 4), (1, 10), (3, 20)), ()), "lacks", 1)
        # Weights below nought that stay as they are: there is no way home then.
        self.refuses(kinds("1>0:1", "1>1:1"), ("share", 0, ((2, 1), (-1, 1)), ()), "lacks", 1)
        self.refuses(kinds("1>0:1", "1>1:1"), ("share", 0, ((2, 1), (-1, 1)), ((1, 0),)), "way", 0)

    def test_way(self):
        for place, ways in (
                (0, ((0, 0),)), (0, ((0, 1), (1, 0))), (1, ((1, 0), (0, 1))), (1, ((1, 0), (1, 0))),
                (2, ((1, 0), (2, 1), (2, 0))), (2, ((1, 0), (2, 1), (1, 0))), (0, ((3, 2), (2, 0), (1, 0))),
                (0, ((2, 1), (1, 0))), (1, ((1, 0), (3, 2))), (1, ((1, 0), (3, 0))), (0, ((3, 0),)),
                (0, ((2, 2),)), (0, ((1, 1),)), (1, ((2, 0), (3, 1))), (2, ((1, 0), (2, 0), (3, 1)))):
            self.refuses(FOUR, ("share", 0, FOUR_WEIGHTS, ways), "way", place)

    def test_lacks(self):
        for least, ways in ((1, ()), (2, ((1, 0),)), (1, ((2, 0),)), (3, ((1, 0), (2, 1))), (1, ((2, 0), (3, 2)))):
            self.refuses(FOUR, ("share", 0, FOUR_WEIGHTS, ways), "lacks", least)
        self.refuses(FOUR, ("share", 1, FOUR_WEIGHTS, ()), "lacks", 0)
        self.refuses(HALVES, ("share", 0, ((2, 3), (1, 3)), ()), "lacks", 1)
        # A kind that home isn't led to from can't be home: one is left over.
        self.refuses(FOUR, ("share", 3, FOUR_WEIGHTS, ()), "lacks", 0)

    def test_first_of_several(self):
        self.refuses(FOUR, ("share", 0, ((1, 1), (1, 1), (0, 1), (0, 1)), ((0, 0),)), "whole", 0)
        self.refuses(FOUR, ("share", 0, ((0, 1), (0, 1), (1, 2), (1, 2)), ((0, 0),)), "weight", 0)
        self.refuses(FOUR, ("share", 0, FOUR_WEIGHTS, ((3, 2), (0, 0))), "way", 0)
        self.refuses(FOUR, ("share", 0, FOUR_WEIGHTS, ((1, 0), (0, 0))), "way", 1)

    def test_any_home_any_ways_by_right_weights(self):
        seen = set()
        for told in FULL_KINDS:
            paper = share_told(told)
            weights = paper[2] if paper[0] == "share" else ((1, 1),) + ((0, 1),) * (len(told) - 1)
            for home in range(len(told)):
                for ways in all_ways(len(told), 2 if len(told) == 4 else 3):
                    expected = self.as_due(told, ("share", home, weights, ways))
                    seen.add(expected if isinstance(expected, str) else expected[0])
        self.assertEqual(seen, {"share", "weight", "way", "lacks"})

    def test_weights_off_by_a_bit_at_each_place(self):
        for told in FULL_KINDS:
            paper = share_told(told)
            if paper[0] == "share" and len(told) > 1:
                for one, other in itertools.permutations(range(len(told)), 2):
                    weights = [number(weight) for weight in paper[2]]
                    weights[one] += BIT
                    self.as_due(told, (*paper[:2], tuple(pair(weight) for weight in weights), paper[3]))
                    weights[other] -= BIT
                    wrong = (*paper[:2], tuple(pair(weight) for weight in weights), paper[3])
                    self.assertEqual(self.as_due(told, wrong)[0], "weight")


class ApartPapers(Checked):
    def test_by_written_numbers(self):
        self.lets(TWO_RINGS, ("apart", (0, 1), (2, 3)), "apart")
        self.lets(TWO_RINGS, ("apart", (2, 3), (0, 1)), "apart")
        self.lets(SPLIT, ("apart", (1,), (2,)), "apart")
        self.lets(kinds("2>0:1", "3>1:1"), ("apart", (0,), (1,)), "apart")
        self.lets(kinds("1>0:1", "1>1:1", "1>2:1", "1>3:1"), ("apart", (0, 3), (1, 2)), "apart")

    def test_both(self):
        for least, one, other in ((0, (0,), (0,)), (0, (0, 1), (0, 1)), (1, (0, 1), (1, 2, 3)), (3, (0, 3), (1, 3)),
                                  (2, (0, 2, 3), (1, 2, 3)), (1, (1, 2), (0, 1, 2, 3))):
            self.refuses(TWO_RINGS, ("apart", one, other), "both", least)
            self.refuses(TWO_RINGS, ("apart", other, one), "both", least)

    def test_out_the_least_of_one_then_of_other(self):
        self.refuses(TWO_RINGS, ("apart", (0,), (2, 3)), "out", 0)
        self.refuses(TWO_RINGS, ("apart", (2, 3), (0,)), "out", 0)
        self.refuses(TWO_RINGS, ("apart", (3,), (0,)), "out", 3)
        self.refuses(TWO_RINGS, ("apart", (0,), (3,)), "out", 0)
        self.refuses(TWO_RINGS, ("apart", (2,), (0, 1)), "out", 2)
        self.refuses(TWO_RINGS, ("apart", (0, 1), (3,)), "out", 3)
        self.refuses(TWO_RINGS, ("apart", (0, 1, 2), (3,)), "out", 2)
        self.refuses(TWO_RINGS, ("apart", (1, 2), (0, 3)), "out", 1)
        self.refuses(TWO_RINGS, ("apart", (0, 3), (1, 2)), "out", 0)
        self.refuses(SPLIT, ("apart", (0, 1), (2,)), "out", 0)
        self.refuses(SPLIT, ("apart", (2,), (0, 1)), "out", 0)
        self.refuses(SPLIT, ("apart", (1, 3), (2,)), "out", 3)

    def test_all_of_them(self):
        seen = set()
        for told in FULL_KINDS:
            for one in groups(len(told)):
                for other in groups(len(told)):
                    expected = self.as_due(told, ("apart", one, other))
                    seen.add(expected if isinstance(expected, str) else expected[0])
        self.assertEqual(seen, {"apart", "both", "out"})


class Shape(Checked):
    def test_any_things(self):
        for told in (kinds("1>0:1"), HALVES, TWO_RINGS):
            for thing in things():
                self.refuses(told, thing, "shape", 0)

    def test_any_things_at_each_place(self):
        share = ("share", 0, FOUR_WEIGHTS, ((1, 0), (2, 1), (3, 2)))
        apart = ("apart", (0, 1), (2, 3))
        for thing in things():
            for place in range(4):
                is_home = place == 1 and type(thing) is int and 0 <= thing < 4
                if not is_home and not (place == 3 and thing in ((), ((0, 0),) * 3)):
                    self.refuses(FOUR, share[:place] + (thing,) + share[place + 1:], "shape", 0)
                weights = share[2][:place] + (thing,) + share[2][place + 1:]
                self.refuses(FOUR, ("share", 0, weights, share[3]), "shape", 0)
            for place in range(3):
                if not (place and thing in ((0,), (1,)) and type(thing[0]) is int):
                    self.refuses(TWO_RINGS, apart[:place] + (thing,) + apart[place + 1:], "shape", 0)
                ways = share[3][:place] + (thing,) + share[3][place + 1:]
                self.refuses(FOUR, ("share", 0, FOUR_WEIGHTS, ways), "shape", 0)
            if not (type(thing) is int and 0 <= thing < 4):
                self.refuses(FOUR, ("share", 0, FOUR_WEIGHTS, ((thing, 0),)), "shape", 0)
                self.refuses(FOUR, ("share", 0, FOUR_WEIGHTS, ((1, thing),)), "shape", 0)
                self.refuses(TWO_RINGS, ("apart", (0, thing), (2, 3)), "shape", 0)
                self.refuses(TWO_RINGS, ("apart", (0, 1), (thing,)), "shape", 0)

    def test_words(self):
        for word in ("Share", "shar", "", "apart", b"share", None, True, 0, ("share",), ["share"]):
            self.refuses(HALVES, (word, 0, ((2, 3), (1, 3)), ((1, 0),)), "shape", 0)
        for word in ("Apart", "share", "", None, 0, ("apart",)):
            self.refuses(TWO_RINGS, (word, (0, 1), (2, 3)), "shape", 0)

    def test_homes(self):
        for home in (2, -1, True, False, "0", None, (0,), GREAT):
            self.refuses(HALVES, ("share", home, ((2, 3), (1, 3)), ((1, 0),)), "shape", 0)

    def test_weights(self):
        for weights in (((2, 3),), ((2, 3), (1, 3), (0, 1)), (), [(2, 3), (1, 3)], ((2, 3), [1, 3]), ((4, 6), (1, 3)),
                        ((2, 3), (True, 3)), ((1, True), (0, 1)), ((1, 1), (False, 1)), (1, 0), ((1, 0), (0, 1)),
                        {0: (2, 3), 1: (1, 3)}, ((-2, -3), (1, 3))):
            self.refuses(HALVES, ("share", 0, weights, ((1, 0),)), "shape", 0)

    def test_ways(self):
        for ways in (((1, 0),) * 4, ((1, 2),), ((-1, 0),), ((True, 0),), ((1, False),), ((1,),), ((1, 0, 0),), [(1, 0)],
                     ([1, 0],), (1, 0), None, "", {1: 0}, ("10",)):
            self.refuses(HALVES, ("share", 0, ((2, 3), (1, 3)), ways), "shape", 0)
        # Three pairs are not too many, even of fewer kinds.
        self.refuses(HALVES, ("share", 0, ((2, 3), (1, 3)), ((1, 0),) * 3), "way", 1)
        self.refuses(kinds("1>0:1"), ("share", 0, ((1, 1),), ((0, 0),) * 3), "way", 0)
        self.refuses(kinds("1>0:1"), ("share", 0, ((1, 1),), ((0, 0),) * 4), "shape", 0)

    def test_groups(self):
        for group in ((), (1, 0), (0, 0), (0, 1, 1), (4,), (-1, 0), (0, True), (False, 1), [0, 1], ((0, 1),), "01", 0,
                      None, {0: 1}, (0, 1, 2, 3, 4), ("0", "1"), (0, 2, 1)):
            self.refuses(TWO_RINGS, ("apart", group, (2, 3)), "shape", 0)
            self.refuses(TWO_RINGS, ("apart", (0, 1), group), "shape", 0)
        self.refuses(TWO_RINGS, ("apart", (), ()), "shape", 0)

    def test_lists_and_other_lengths(self):
        share = ("share", 0, ((2, 3), (1, 3)), ((1, 0),))
        apart = ("apart", (0,), (1,))
        for thing in (list(share), share[:3], share + (0,), (share,), [share], list(apart), apart[:2], apart + (0,),
                      (apart,), apart + ((),), ("share", (0,), (1,)), ("apart", 0, ((2, 3), (1, 3)), ((1, 0),)),
                      {0: share}, "share", "apart", ("share",), ("apart",)):
            self.refuses(HALVES, thing, "shape", 0)

    def test_great_numbers(self):
        self.refuses(FOUR, ("share", 0, tuple((GREAT, GREAT + 1 + k) for k in (0, 1, 3, 4)), ()), "whole", 0)
        told = (((1, 0, (GREAT - 1, GREAT)), (1, 1, (1, GREAT))), ((1, 0, (1, 1)),))
        self.lets(told, ("share", 0, ((GREAT, GREAT + 1), (1, GREAT + 1)), ((1, 0),)), "share")
        self.lets(told, ("share", 1, ((GREAT, GREAT + 1), (1, GREAT + 1)), ((0, 1),)), "share")
        self.refuses(told, ("share", 0, ((GREAT + 1, GREAT + 2), (1, GREAT + 2)), ((1, 0),)), "weight", 0)


class Whoever(Checked):
    def test_just_one_of_both_sorts(self):
        # Of all homes and ways by the told weights, and of all groups: some of the one sort, or of the other.
        for told in FULL_KINDS:
            paper = share_told(told)
            weights = paper[2] if paper[0] == "share" else ((1, 1),) + ((0, 1),) * (len(told) - 1)
            shares = [("share", home, weights, ways) for home in range(len(told))
                      for ways in all_ways(len(told)) if len(ways) == len(told) - 1]
            aparts = [("apart", one, other) for one in groups(len(told)) for other in groups(len(told))]
            by_share = [thing for thing in shares if self.is_let(told, thing)]
            by_apart = [thing for thing in aparts if self.is_let(told, thing)]
            self.assertNotEqual(bool(by_share), bool(by_apart), told)
            self.assertEqual(bool(by_share), paper[0] == "share")

    def is_let(self, told, thing):
        try:
            return bool(lets_share(told, thing))
        except NoPaper:
            return False

    def test_where_there_is_an_apart_paper_several_weights_stay_as_they_are(self):
        # So each of them is refused by its ways: no SHARE PAPER says that they are the only ones.
        several = [((1, 2), (1, 2), (0, 1), (0, 1)), ((0, 1), (0, 1), (1, 2), (1, 2)), ((1, 4),) * 4]
        for weights in several:
            for home in range(4):
                for ways in all_ways(4, 2):
                    self.assertIn(self.as_due(TWO_RINGS, ("share", home, weights, ways))[0], ("way", "lacks"))

    def test_papers_by_chance_as_the_document_says(self):
        chooser = random.Random(54)
        seen = {}
        for turn in range(6000):
            told = chooser.choice(FULL_KINDS)
            many = len(told)
            if chooser.random() < 0.3:
                thing = ("apart", chooser.choice(groups(many)), chooser.choice(groups(many)))
            else:
                weights = share_told(told)[2]
                if not (share_told(told)[0] == "share" and chooser.random() < 0.8):
                    weights = tuple(pair(Fraction(chooser.randrange(-2, 4), many)) for kind in range(many))
                ways = tuple((chooser.randrange(many), chooser.randrange(many)) for turn in
                             range(chooser.choice((many - 1, many - 1, chooser.randrange(4)))))
                thing = ("share", chooser.randrange(many), weights, ways)
            expected = self.as_due(told, thing)
            word = expected if isinstance(expected, str) else expected[0]
            seen[word] = seen.get(word, 0) + 1
        self.assertEqual(set(seen), {"share", "apart", "whole", "weight", "way", "lacks", "both", "out"})

    def test_what_is_handed_in_stays_as_it_was_and_the_same_is_told_twice(self):
        asked = [["share", 0, [[1, 1]], []], ("share", 0, [(2, 3), (1, 3)], ((1, 0),)), ("apart", [0], (1,)),
                 {"a": [1]}]
        copies = copy.deepcopy((asked, FULL_KINDS))
        for turn in range(2):
            for thing in asked:
                self.refuses(HALVES, thing, "shape", 0)
            self.lets(HALVES, ("share", 0, ((2, 3), (1, 3)), ((1, 0),)), "share")
        self.assertEqual((asked, FULL_KINDS), copies)


if __name__ == "__main__":
    unittest.main()
