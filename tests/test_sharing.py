"""[55], [56]: papers that are told, SHARES of kinds and what they gain for ever."""
import copy
import random
import unittest
from fractions import Fraction

from freshparts.kindputs import kind_stands
from freshparts.kinds import is_kinds, kind_life, lent
from freshparts.making import behind
from freshparts.means import mean
from freshparts.sharechecker import lets_share
from freshparts.sharing import ever_gain, share_told, shares

from byhand import COIN, FULL_KINDS, kinds, life, number, pair, plain_chain
from telling import Told


def by_chance(chooser):
    """FULL KINDS of one to four kinds, often with few followers each."""
    many = chooser.randrange(1, 5)
    told = []
    for kind in range(many):
        marks = [(stretch, follower) for stretch in range(1, 7) for follower in range(many)]
        chosen = sorted(chooser.sample(marks, chooser.choice((1, 1, 2, 3, 5))))
        parts = [chooser.randrange(1, 8) for mark in chosen]
        told.append(tuple((*mark, pair(Fraction(part, sum(parts)))) for mark, part in zip(chosen, parts)))
    return tuple(told)


def solved(told):
    """The weights that stay as they are, together one, by sweeping out; None where there are several."""
    rows = plain_chain(told)
    many = len(told)
    sums = [[rows[other][kind] - (kind == other) for other in range(many)] + [Fraction(0)] for kind in range(many)]
    sums.append([Fraction(1)] * (many + 1))
    for place in range(many):
        found = [row for row in sums[place:] if row[place] != 0]
        if not found:
            return None
        sums.remove(found[0])
        sums.insert(place, [value / found[0][place] for value in found[0]])
        for at, row in enumerate(sums):
            if at != place:
                sums[at] = [value - row[place] * lead for value, lead in zip(row, sums[place])]
    return [row[-1] for row in sums[:many]]


def samples():
    chooser = random.Random(55)
    return list(FULL_KINDS) + [by_chance(chooser) for turn in range(400)]


class ShareTold(Told):
    def test_by_written_numbers(self):
        self.assertEqual(share_told(kinds("4>0:1")), ("share", 0, ((1, 1),), ()))
        found = share_told(kinds("1>0:1/2 1>1:1/2", "3>0:2/3 6>0:1/3"))
        self.assertEqual((found[0], found[2]), ("share", ((2, 3), (1, 3))))
        self.assertEqual(set(share_told(kinds("2>0:1", "3>1:1"))[1:]), {(0,), (1,)})
        self.assertEqual(set(share_told(kinds("1>1:1", "1>0:1", "2>3:1", "2>2:1"))[1:]), {(0, 1), (2, 3)})
        self.assertEqual(share_told(kinds("2>1:1", "2>1:1")), ("share", 1, ((0, 1), (1, 1)), ((0, 1),)))

    def test_each_told_one_is_let_by(self):
        words = set()
        for told in samples():
            self.assertTrue(is_kinds(told))
            found = share_told(told)
            self.assertIs(type(found), tuple)
            self.assertEqual(lets_share(told, found), found[0])
            words.add((found[0], len(told)))
        self.assertEqual(words, {("share", 1), ("share", 2), ("share", 3), ("share", 4), ("apart", 2), ("apart", 3),
                                 ("apart", 4)})

    def test_the_only_weights_there_are(self):
        for told in samples():
            weights = solved(told)
            found = share_told(told)
            self.assertEqual(weights is None, found[0] == "apart", told)
            if weights is not None:
                self.right(found[2], weights)
                self.assertEqual(sum(weights), 1)
                self.assertTrue(all(weight >= 0 for weight in weights))

    def test_of_just_the_kinds_told(self):
        for told in samples():
            found = share_told(told)
            self.assertIs(type(found[0]), str)
            if found[0] == "share":
                self.assertEqual(len(found), 4)
                self.assertEqual([type(part) for part in found], [str, int, tuple, tuple])
                self.assertEqual([[type(way), *map(type, way)] for way in found[3]],
                                 [[tuple, int, int]] * len(found[3]))
            else:
                self.assertEqual([type(part) for part in found], [str, tuple, tuple])


class Shares(Told):
    def test_by_written_numbers(self):
        self.assertEqual(shares(kinds("4>0:1")), ((1, 1),))
        self.assertEqual(shares(kinds("1>0:1/2 1>1:1/2", "3>0:2/3 6>0:1/3")), ((1, 3), (2, 3)))
        self.assertEqual(shares(kinds("1>1:1", "2>2:1", "3>3:1", "4>0:1")), ((1, 10), (1, 5), (3, 10), (2, 5)))
        self.assertEqual(shares(kinds("1>1:1", "2>0:1", "1>0:1/2 4>1:1/2")), ((1, 3), (2, 3), (0, 1)))
        self.assertIs(shares(kinds("2>0:1", "3>1:1")), None)

    def test_weights_by_means(self):
        for told in samples():
            weights = solved(told)
            if weights is None:
                self.assertIs(shares(told), None)
            else:
                spans = [weight * number(mean(kind_life(told, kind))) for kind, weight in enumerate(weights)]
                self.right(shares(told), [span / sum(spans) for span in spans])

    def test_together_one(self):
        for told in samples():
            found = shares(told)
            if found is not None:
                self.assertEqual(sum(number(one) for one in found), 1)

    def test_what_stands_comes_to_it_whatever_the_first_was(self):
        for told in FULL_KINDS:
            found = shares(told)
            if found is not None:
                for first in range(len(told)):
                    rows = [kind_stands(told, first, beat) for beat in range(60, 120)]
                    for kind, one in enumerate(found):
                        middle = sum(number(row[kind]) for row in rows) / len(rows)
                        self.assertLess(abs(middle - number(one)), Fraction(1, 30))

    def test_of_kinds_lent_by_their_means(self):
        lives = (COIN, life("1"), life("0 0 1/3 0 0 2/3"), life("1/6 1/6 1/6 1/6 1/6 1/6"), life("0 1 0"))
        for home in lives:
            for out in lives:
                both = number(mean(behind(home, out)))
                self.right(shares(lent(home, out)), [number(mean(home)) / both, number(mean(out)) / both])


class EverGain(Told):
    def test_by_written_numbers(self):
        told = kinds("1>0:1/2 1>1:1/2", "3>0:2/3 6>0:1/3")
        self.assertEqual(ever_gain(told, ((3, 1), (0, 1))), (1, 1))
        self.assertEqual(ever_gain(told, ((-3, 1), (1, 2))), (-2, 3))
        self.assertEqual(ever_gain(told, ((-2, 1), (1, 1))), (0, 1))
        self.assertEqual(ever_gain(kinds("4>0:1"), ((-7, 3),)), (-7, 3))
        self.assertIs(ever_gain(kinds("2>0:1", "3>1:1"), ((1, 1), (1, 1))), None)

    def test_each_times_its_share(self):
        chooser = random.Random(56)
        for told in samples():
            prices = [Fraction(chooser.randrange(-999, 1000), chooser.randrange(1, 1000)) for kind in told]
            found = ever_gain(told, tuple(pair(price) for price in prices))
            parts = shares(told)
            if parts is None:
                self.assertIs(found, None)
            else:
                self.one(found, sum(price * number(part) for price, part in zip(prices, parts)))

    def test_one_of_each_gains_one(self):
        for told in FULL_KINDS:
            expected = None if shares(told) is None else (1, 1)
            self.assertEqual(ever_gain(told, ((1, 1),) * len(told)), expected)

    def test_what_is_handed_in_stays_and_the_same_is_told_twice(self):
        copies = copy.deepcopy(FULL_KINDS)

        def asked():
            return [(shares(told), ever_gain(told, ((2, 3),) * len(told))) for told in FULL_KINDS]

        self.assertEqual(asked(), asked())
        self.assertEqual(FULL_KINDS, copies)


if __name__ == "__main__":
    unittest.main()
