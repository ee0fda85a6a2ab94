"""[5]: what one module tells, held against what another tells of the same."""
import random
import unittest
from fractions import Fraction

from freshparts.counts import counts, in_all, many_by, together
from freshparts.desk import Desk
from freshparts.errors import NoBeat, NoPaper
from freshparts.evenchecker import lets_even
from freshparts.evening import even_paper
from freshparts.ever import even_first, ever_ages, ever_lefts, ever_put, ever_stretches, share
from freshparts.gains import begun, gain_a_beat, gains
from freshparts.kindputs import first_of, kind_puts, kind_stands
from freshparts.kinds import chain, is_kinds, kind_life, lent
from freshparts.lives import chance_at, is_life, lasting, miss, short
from freshparts.making import behind, cut_at, folded, later, left_of, mixed_by
from freshparts.means import mean, mean_square, round_of
from freshparts.puts import anew, puts, puts_after
from freshparts.rules import is_rule, passed, rule_ends, rule_means
from freshparts.sharechecker import lets_share
from freshparts.sharing import ever_gain, share_told, shares
from freshparts.standing import age_and_left, ages, lefts, mean_left, stays, stretches
from freshparts.sumchecker import lets_sum
from freshparts.sums import sum_paper
from freshparts.texts import kinds_lines, life_text, read_kinds, read_life
from freshparts.thinning import thinned
from freshparts.ways import all_ways, way_chance
from freshparts.wayschecker import lets_ways
from freshparts.wayspapers import ways_paper

from byhand import ALL_KINDS, BOUNDED_FULL, FULL, FULL_KINDS, SAMPLES, life, number, pair
from telling import Told

NOUGHT, ONE = (0, 1), (1, 1)
LIVES = SAMPLES + tuple(told for told in FULL if told not in SAMPLES)
BOUNDED = tuple(told for told in LIVES if told[1] == NOUGHT)
LENDABLE = tuple(told for told in BOUNDED if len(told[0]) <= 6)


def total(told):
    return sum((number(one) for one in told), Fraction(0))


class Ways(Told):
    def test_puts_are_all_ways_added_and_both_bounds_of_the_whole_paper(self):
        for told in LIVES:
            for beat in range(7):
                ways = all_ways(told, beat)
                put = puts(told, beat)[beat]
                self.one(put, total(way_chance(told, way) for way in ways))
                paper = ways_paper(told, beat)
                self.assertEqual(paper[:3], (put, put, tuple(ways)))
                self.assertIs(lets_ways(told, beat, paper), True)
                self.assertEqual(ages(told, beat)[0], put)

    def test_what_is_let_by_is_so_whoever_wrote_it(self):
        chooser = random.Random(5)
        let = 0
        for told in LIVES:
            for turn in range(40):
                beat = chooser.randrange(7)
                low, high, hits, stands = ways_paper(told, beat)
                hits = tuple(way for way in hits if chooser.random() < 0.8)
                stands = tuple(way for way in stands if chooser.random() < 0.8)
                low = total(way_chance(told, way) for way in hits) + chooser.choice((0, 0, Fraction(1, 9), -1))
                over = sum(number(way_chance(told, way)) * number(lasting(told, beat - sum(way))) for way in stands)
                high = 1 - over + chooser.choice((0, 0, -Fraction(1, 9), 1))
                put = number(puts(told, beat)[beat])
                try:
                    lets_ways(told, beat, (pair(low), pair(Fraction(high)), hits, stands))
                except NoPaper:
                    continue
                let += 1
                self.assertTrue(low <= put <= high)
        self.assertGreater(let, 100)

    def test_how_many_were_put(self):
        for told in LIVES:
            for beat in (0, 1, 6, 20):
                found = counts(told, beat)
                self.assertEqual(total(found), 1)
                self.one(many_by(told, beat), sum(j * number(one) for j, one in enumerate(found)))
                self.assertEqual(found[0], lasting(told, beat))
                put = puts(told, beat)[beat]
                self.assertEqual(together((told,), beat), (pair(1 - number(put)), put))
        # Behind beat 0 for ever: as many as are put in all.
        for told in LIVES:
            if miss(told) != NOUGHT:
                self.assertGreaterEqual(number(in_all(told)), number(many_by(told, 20)))

    def test_what_stands(self):
        for told in LIVES:
            for beat in (0, 1, 5, 20):
                self.assertEqual(total(ages(told, beat)), 1)
                self.assertEqual(lefts(told, beat, 1)[0], puts(told, beat + 1)[beat + 1])
                self.one(stays(told, beat), number(miss(told)) * (1 + number(many_by(told, beat))))
                for age, chance in enumerate(ages(told, beat)):
                    for left in (1, 2, 9):
                        if chance != NOUGHT:
                            self.one(age_and_left(told, beat, age, left),
                                     number(chance) * number(chance_at(left_of(told, age), left)))
                for left, chance in enumerate(lefts(told, beat, 6), start=1):
                    self.one(chance, sum(number(age_and_left(told, beat, age, left)) for age in range(beat + 1)))
                for k, chance in enumerate(stretches(told, beat, 6), start=1):
                    younger = range(min(k, beat + 1))
                    self.one(chance, sum(number(age_and_left(told, beat, age, k - age)) for age in younger))


class Anew(Told):
    def test_puts_obey_the_told_sum(self):
        for told in LIVES:
            self.assertEqual(anew(told, (ONE,) + (NOUGHT,) * 20), puts(told, 20))
            self.assertEqual(anew(told, (NOUGHT,) + tuple(chance_at(told, k) for k in range(1, 21))),
                             (NOUGHT,) + puts(told, 20)[1:])

    def test_what_stands_has_some_age(self):
        # Something stands at each beat: LASTING, reckoned anew, is one.
        for told in LIVES:
            self.assertEqual(anew(told, tuple(lasting(told, n) for n in range(21))), (ONE,) * 21)

    def test_an_age_a_left_and_how_many_are_reckoned_anew(self):
        for told in LIVES:
            for age in (0, 1, 4):
                begin = tuple(lasting(told, n) if n == age else NOUGHT for n in range(21))
                expected = tuple(ages(told, n)[age] if n >= age else NOUGHT for n in range(21))
                self.assertEqual(anew(told, begin), expected)
            for left in (1, 3):
                begin = tuple(chance_at(told, n + left) for n in range(21))
                self.assertEqual(anew(told, begin), tuple(lefts(told, n, left)[left - 1] for n in range(21)))
            begin = tuple(pair(1 - number(lasting(told, n))) for n in range(21))
            self.assertEqual(anew(told, begin), tuple(many_by(told, n) for n in range(21)))

    def test_gains_are_reckoned_anew(self):
        for told in BOUNDED_FULL:
            prices = tuple((k * k - 7, 3) if (k * k - 7) % 3 else (k * k - 7, 1) for k in range(1, len(told[0]) + 1))
            first = [Fraction(0)]
            for k in range(1, 21):
                price = number(prices[k - 1]) if k <= len(prices) else 0
                first.append(first[-1] + price * number(chance_at(told, k)))
            self.assertEqual(anew(told, tuple(pair(one) for one in first)), gains(told, prices, NOUGHT, 20))
            self.assertEqual(anew(told, (pair(first[-1]),) * 21), tuple(
                pair(first[-1] * (1 + number(many_by(told, n)))) for n in range(21)))
            self.assertEqual(anew(told, (pair(first[-1]),) + (NOUGHT,) * 20), tuple(
                pair(first[-1] * number(put)) for put in puts(told, 20)))


class ForEver(Told):
    def test_from_the_even_first_on_one_is_put_with_the_very_share(self):
        for told in FULL:
            first = even_first(told)
            self.assertEqual(puts_after(first, told, 20), (NOUGHT,) + (share(told),) * 20)
            self.assertEqual(tuple(chance_at(first, k) for k in range(1, 13)), ever_lefts(told, 12))
            self.assertEqual(ever_ages(told, 12), ever_lefts(told, 12))
            # The mean of its stretch is the one who comes at some beat waits.
            expected = (number(mean_square(told)) / number(mean(told)) + 1) / 2
            self.one(mean(first), expected)

    def test_puts_come_to_one_number_only_where_the_round_is_one(self):
        for told in FULL:
            beats = round_of(told)
            self.assertEqual(sum(number(ever_put(told, rest)) for rest in range(beats)), beats * number(share(told)))
            for rest in range(1, beats):
                self.assertTrue(all(put == NOUGHT for put in puts(told, 20)[rest::beats]))
                self.assertEqual(ever_put(told, rest), NOUGHT)
            if beats == 1:
                self.assertEqual(ever_put(told, 0), share(told))

    def test_long_stretches_are_met_by_their_length(self):
        for told in FULL:
            for k, one in enumerate(ever_stretches(told, 12), start=1):
                self.one(one, k * number(chance_at(told, k)) * number(share(told)))
        for told in LIVES:
            for k, one in enumerate(stretches(told, 20, 12), start=1):
                last = sum(number(put) for put in puts(told, 20)[21 - k:])
                self.one(one, last * number(chance_at(told, k)))

    def test_even_and_sum_papers_bound_what_is_so(self):
        for told in FULL:
            paper = sum_paper(told, 40)
            self.assertIs(lets_sum(told, paper), True)
            self.assertTrue(number(paper[1]) <= number(mean(told)) <= number(paper[1]) + number(paper[2]))
        for told in BOUNDED_FULL:
            for most in range(21):
                if most + 1 < len(told[0]):
                    with self.assertRaises(NoBeat):
                        even_paper(told, most)
                    continue
                paper = even_paper(told, most)
                self.assertIs(lets_even(told, paper), True)
                low, high = number(paper[1]), number(paper[2])
                self.assertTrue(low <= number(share(told)) <= high)
                self.assertTrue(all(low <= number(put) <= high for put in puts(told, 40)[most + 1 - len(told[0]):]))

    def test_one_by_the_share_is_between_what_papers_bound(self):
        for told in BOUNDED_FULL:
            paper = sum_paper(told, len(told[0]))
            self.assertEqual(paper[2], NOUGHT)
            self.one(share(told), 1 / number(paper[1]))


class Stopping(Told):
    def test_at_each_beat_the_next_one_is_put_by_how_many_were(self):
        for told in FULL:
            for beat in range(0, 21, 4):
                many, beats = passed(told, beat)
                self.one(many, 1 + number(many_by(told, beat)))
                self.one(beats, beat + number(mean_left(told, beat)))
                self.one(beats, number(many) * number(mean(told)))
                self.one(many, total(puts(told, beat)))

    def test_so_with_gains(self):
        for told in BOUNDED_FULL:
            by_length = tuple((k, 1) for k in range(1, len(told[0]) + 1))
            for beat, one in enumerate(begun(told, by_length, 20)):
                self.assertEqual(one, passed(told, beat)[1])
            for beat, one in enumerate(begun(told, (ONE,) * len(told[0]), 20)):
                self.assertEqual(one, passed(told, beat)[0])
            # What ended by a beat, and the AGE of what stands, come to the beat.
            for beat, one in enumerate(gains(told, by_length, NOUGHT, 20)):
                self.one(one, beat - sum(age * number(chance) for age, chance in enumerate(ages(told, beat))))
            self.assertEqual(gain_a_beat(told, by_length, NOUGHT), ONE)

    def test_so_with_any_rule(self):
        def wait(beat):
            return ("go", tuple((k, wait(beat - k)) for k in range(1, beat + 1)), ("stop",))

        for told in BOUNDED_FULL:
            for beat in range(4):
                rule = wait(beat)
                self.assertTrue(is_rule(rule))
                self.assertEqual(rule_means(told, rule), passed(told, beat))
                found = rule_ends(told, rule)
                # Behind the beat it stops with one more than are put at the beats 1 to it.
                for j, chance in enumerate(counts(told, beat)):
                    self.one(chance, sum((number(one[2]) for one in found if one[0] == j + 1), Fraction(0)))
                for left, chance in enumerate(lefts(told, beat, 12), start=1):
                    self.one(chance, sum((number(one[2]) for one in found if one[1] == beat + left), Fraction(0)))


class Turned(Told):
    def test_folded_cut_later_and_mixed(self):
        for told in BOUNDED:
            put = puts(told, 20)
            for many in (1, 2, 3):
                found = puts(folded(told, many), 20)
                self.assertEqual(found, tuple(put[n // many] if n % many == 0 else NOUGHT for n in range(21)))
            self.assertEqual(mixed_by((told, told), ((1, 3), (2, 3))), short(told))
        for told in LIVES:
            put = puts(told, 20)
            for most in range(1, 13):
                cut = cut_at(told, most)
                self.assertEqual(puts(cut, most - 1), put[:most])
                self.assertEqual(miss(cut), NOUGHT)
            self.assertEqual(puts_after(later(told, 3), told, 20)[3:], (NOUGHT,) + put[1:18])

    def test_thinned(self):
        for told in LIVES:
            for part in (NOUGHT, ONE, (1, 3), (7, 9)):
                kept = thinned(told, part, 20)
                self.assertEqual(puts((kept, NOUGHT), 20)[1:], tuple(pair(number(part) * number(put))
                                                                     for put in puts(told, 20)[1:]))

    def test_thinned_as_a_kind_that_is_kept_or_not(self):
        # Kind 0 is a kept one, kind 1 one that isn't: the first of kind 0 behind beat 0 is the first kept one.
        for told in LENDABLE:
            row = []
            for k, chance in enumerate(told[0], start=1):
                if chance != NOUGHT:
                    row += [(k, 0, pair(number(chance) / 3)), (k, 1, pair(number(chance) * 2 / 3))]
            two = (tuple(row), tuple(row))
            self.assertTrue(is_kinds(two))
            self.assertEqual(first_of(two, 0, 0, 20), thinned(told, (1, 3), 20))
            self.assertEqual(tuple(row[0] for row in kind_puts(two, 0, 20))[1:],
                             tuple(pair(number(put) / 3) for put in puts(told, 20)[1:]))

    def test_lent(self):
        for home in LENDABLE:
            for out in LENDABLE:
                both = behind(home, out)
                two = lent(home, out)
                self.assertEqual(tuple(row[0] for row in kind_puts(two, 0, 20)), puts(both, 20))
                self.assertEqual(first_of(two, 0, 0, 12), tuple(chance_at(both, k) for k in range(1, 13)))
                self.assertEqual(tuple(row[1] for row in kind_puts(two, 0, 20))[1:],
                                 puts_after(home, behind(out, home), 20)[1:])

    def test_left_of_what_stands_is_the_first_life_from_there(self):
        for told in LIVES:
            put = puts(told, 20)
            for beat in (1, 5):
                found = [Fraction(0)] * 9
                for age, chance in enumerate(ages(told, beat)):
                    if chance != NOUGHT:
                        for n, one in enumerate(puts_after(left_of(told, age), told, 8)):
                            found[n] += number(chance) * number(one)
                self.right(put[beat + 1:beat + 9], found[1:])


class Kinds(Told):
    def test_one_kind_alone_is_a_life(self):
        for told in LENDABLE:
            one = (tuple((k, 0, chance) for k, chance in enumerate(told[0], start=1) if chance != NOUGHT),)
            self.assertEqual(kind_life(one, 0), short(told))
            self.assertEqual(tuple(row[0] for row in kind_puts(one, 0, 20)), puts(told, 20))
            self.assertEqual(first_of(one, 0, 0, 12), tuple(chance_at(told, k) for k in range(1, 13)))
            self.assertEqual(kind_stands(one, 0, 20), (ONE,))
            self.assertEqual(chain(one), ((pair(1 - number(miss(told))),),))
            if miss(told) == NOUGHT:
                self.assertEqual(shares(one), (ONE,))

    def test_what_stands_was_put_and_lasts(self):
        for told in ALL_KINDS:
            for first in range(len(told)):
                rows = kind_puts(told, first, 20)
                for kind, chance in enumerate(kind_stands(told, first, 20)):
                    own = kind_life(told, kind)
                    self.one(chance, sum(number(row[kind]) * number(lasting(own, 20 - beat))
                                         for beat, row in enumerate(rows)))

    def test_a_share_paper_that_is_let_by_is_the_only_one(self):
        for told in FULL_KINDS:
            paper = share_told(told)
            self.assertEqual(lets_share(told, paper), paper[0])
            for other in FULL_KINDS:
                if len(other) == len(told) and paper[0] == "share" and share_told(other)[0] == "share":
                    weights = share_told(other)[2]
                    try:
                        lets_share(told, ("share", paper[1], weights, paper[3]))
                    except NoPaper:
                        continue
                    self.assertEqual(weights, paper[2])

    def test_the_share_of_a_kind_by_the_life_around_it(self):
        # Of kinds lent, kind 0 is put by the life behind of both: its puts come to that one's share.
        for home in LENDABLE:
            for out in LENDABLE:
                if miss(home) == NOUGHT and miss(out) == NOUGHT:
                    two = lent(home, out)
                    around = number(share(behind(home, out)))
                    self.right(shares(two), [number(mean(home)) * around, number(mean(out)) * around])
                    self.one(ever_gain(two, ((5, 1), (-2, 3))),
                             around * (5 * number(mean(home)) - Fraction(2, 3) * number(mean(out))))
                    self.assertEqual(share_told(two)[2], ((1, 2), (1, 2)))

    def test_what_kinds_gain_for_ever_is_by_their_weights_and_means(self):
        for told in FULL_KINDS:
            paper = share_told(told)
            if paper[0] == "share":
                spans = [number(weight) * number(mean(kind_life(told, kind))) for kind, weight in enumerate(paper[2])]
                gained = ever_gain(told, tuple(pair(Fraction(kind + 1)) for kind in range(len(told))))
                self.one(gained, sum((kind + 1) * span for kind, span in enumerate(spans)) / sum(spans))


class Texts(Told):
    def test_written_and_read_again(self):
        for told in LIVES:
            if all(chance[1] < 1000 for chance in told[0]):
                self.assertEqual(read_life(life_text(told)), told)
        for told in ALL_KINDS:
            self.assertEqual(read_kinds(kinds_lines(told)), told)

    def test_the_desk_tells_what_the_functions_tell(self):
        desk = Desk()
        for told in LIVES:
            if any(chance[1] > 999 for chance in told[0]):
                continue
            brief = short(told)
            self.assertEqual(desk.say("life a " + life_text(told)), life_text(brief))
            self.assertEqual(read_life(desk.say("show a")), brief)
            ratios = dict(share=share(brief), miss=miss(brief))
            for word, one in ratios.items():
                self.assertEqual(Fraction(desk.say(f"{word} a")), number(one))
            self.assertEqual(desk.say("round a"), str(round_of(brief)))
            self.assertEqual(desk.say("mean a") == "none", mean(brief) is None)
            for beat in (0, 7, 20):
                self.assertEqual(Fraction(desk.say(f"put a {beat}")), number(puts(brief, beat)[beat]))
                self.assertEqual(Fraction(desk.say(f"many a {beat}")), number(many_by(brief, beat)))
                for word, found in (("ages", ages(brief, beat)), ("counts", counts(brief, beat))):
                    self.assertEqual([Fraction(one) for one in desk.say(f"{word} a {beat}").split(" ")],
                                     [number(one) for one in found])

    def test_each_told_life_is_short(self):
        for told in LIVES:
            made = [short(told), cut_at(told, 7), later(told, 2)]
            if told[1] == NOUGHT:
                made += [behind(told, told), folded(told, 3), mixed_by((told, life("1")), ((1, 2), (1, 2)))]
            if miss(told) == NOUGHT:
                made.append(even_first(told))
            for one in made:
                self.assertTrue(is_life(one))
                self.assertEqual(one, short(one))


if __name__ == "__main__":
    unittest.main()
