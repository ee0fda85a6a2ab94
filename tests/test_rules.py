"""[57], [58], [59], and what [5] says of any rule that stops by what was."""
import copy
import random
import unittest
from fractions import Fraction

from freshparts.counts import many_by
from freshparts.means import mean
from freshparts.rules import is_rule, passed, rule_ends, rule_means
from freshparts.standing import mean_left

from byhand import BOUNDED_FULL, COIN, FULL, GEOMETRIC, at, last, life, middle, number, put, things
from telling import Told

STOP = ("stop",)
GREAT = 10 ** 199 + 153


def go(cases, rest=STOP):
    return ("go", tuple(cases), rest)


def goes(many):
    """So many within one another."""
    return STOP if many == 0 else go((), goes(many - 1))


def until_behind(beat):
    """The RULE that stops with the first one PUT behind the beat."""
    return go([(k, until_behind(beat - k)) for k in range(1, beat + 1)])


def by_chance(chooser, within=4):
    if within == 0 or chooser.random() < 0.25:
        return STOP
    stretches = sorted(chooser.sample(range(1, 15), chooser.randrange(4)))
    return go([(k, by_chance(chooser, within - 1)) for k in stretches], by_chance(chooser, within - 1))


def size(rule):
    return 1 if rule == STOP else 1 + size(rule[2]) + sum(size(inner) for stretch, inner in rule[1])


def plain_ends(told, rule):
    """By going through all stretches, one by one."""
    found = {}

    def walk(inner, many, beats, chance):
        if inner == STOP:
            found[many, beats] = found.get((many, beats), Fraction(0)) + chance
            return
        for k in range(1, len(told[0]) + 1):
            if at(told, k):
                walk(dict(inner[1]).get(k, inner[2]), many + 1, beats + k, chance * at(told, k))

    walk(rule, 0, 0, Fraction(1))
    return found


RULES = (
    STOP,
    go([]),
    goes(2),
    goes(4),
    go([(1, go([]))]),
    go([(2, STOP)], go([(1, STOP)], go([]))),
    go([(13, goes(3)), (GREAT, goes(3))]),
    go([(1, go([(1, go([(1, go([(1, STOP)]))]))]))]),
    go([(1, STOP), (2, goes(1)), (3, goes(2)), (4, goes(3)), (12, goes(3))], go([(6, goes(2))])),
    until_behind(3),
)
LIVES = BOUNDED_FULL + (life("1 0 0"), life("0 1/3 0 2/3 0 0"), life("1/3 1/3 1/3"))


class IsRule(unittest.TestCase):
    def yes(self, thing):
        self.assertIs(is_rule(thing), True)

    def no(self, thing):
        self.assertIs(is_rule(thing), False)

    def test_rules_of_all_sorts(self):
        for rule in RULES:
            self.yes(rule)

    def test_four_within_one_another_and_five(self):
        for many in range(5):
            self.yes(goes(many))
            self.yes(go([(1, goes(max(0, many - 1)))]))
        self.no(goes(5))
        self.no(goes(19))
        self.no(go([(1, goes(4))]))
        self.no(go([(1, STOP), (2, goes(4))]))
        self.no(go([(1, goes(4))], goes(3)))
        self.no(go([(1, goes(3))], goes(4)))
        self.yes(go([(1, goes(3))], goes(3)))
        # Beside one another they are not within one another.
        self.yes(go([(k, goes(3)) for k in range(1, 9)]))

    def test_sixty_in_all_and_one_more(self):
        for many in (1, 2, 57, 58):
            self.assertEqual(size(go([(k, STOP) for k in range(1, many + 1)])), many + 2)
            self.yes(go([(k, STOP) for k in range(1, many + 1)]))
        for many in (59, 60, 200, 600):
            self.no(go([(k, STOP) for k in range(1, many + 1)]))
        full = go([(k, goes(3)) for k in range(1, 14)], goes(3))
        self.assertEqual(size(full), 57)
        self.yes(full)
        self.assertEqual(size(go([(k, goes(3)) for k in range(1, 15)])), 58)
        for many, rest in ((2, True), (3, False)):
            rule = go([*[(k, goes(3)) for k in range(1, 15)], *[(15 + k, STOP) for k in range(many)]])
            self.assertEqual(size(rule), 58 + many)
            self.assertIs(is_rule(rule), rest)

    def test_each_as_often_as_it_stands_there(self):
        # The very same thing at several places counts at each of them.
        inner = go([(k, STOP) for k in range(1, 10)])
        rule = go([(k, inner) for k in range(1, 5)], inner)
        self.assertEqual(size(rule), 56)
        self.yes(rule)
        self.no(go([(k, inner) for k in range(1, 6)], inner))
        wide = STOP
        for turn in range(4):
            wide = go([(k, wide) for k in range(1, 40)], wide)
        self.no(wide)

    def test_stretches(self):
        for stretches in ((1,), (1, 2), (5, 9, 12), (13,), (GREAT,), (1, GREAT), (GREAT, GREAT + 1)):
            self.yes(go([(k, STOP) for k in stretches]))
        for stretches in ((0,), (-1,), (-GREAT,), (True,), (False,), (1, True), (0, 1), (1, 1), (2, 1), (1, 3, 2),
                          (GREAT, GREAT), (GREAT + 1, GREAT), ("1",), (None,), ((1,),), ([1],), (1, None), (None, 1)):
            self.no(go([(k, STOP) for k in stretches]))
            self.no(go([], go([(k, STOP) for k in stretches])))

    def test_any_things(self):
        for thing in things():
            self.no(thing)

    def test_any_things_at_any_place(self):
        for thing in things():
            self.no((thing,))
            self.no((thing, (), STOP))
            if thing != ():
                self.no(("go", thing, STOP))
            self.no(("go", (), thing))
            self.no(go([thing]))
            self.no(go([(1, STOP), thing]))
            self.no(go([(1, thing)]))
            self.no(go([(1, STOP), (2, thing)]))
            self.no(go([(1, go([], thing))]))
            if not (type(thing) is int and thing >= 1):
                self.no(go([(thing, STOP)]))

    def test_other_words_lists_and_lengths(self):
        for thing in ("stop", "go", ["stop"], ("stop", "stop"), ("stop", ()), ("Stop",), ("go",), ("go", ()),
                      ("go", STOP),
                      ["go", (), STOP], ("go", [], STOP), ("go", (), ["stop"]), ("go", (), STOP, STOP), (STOP,),
                      ("go", STOP, ()), ("go", {}, STOP), ("go", ([1, STOP],), STOP), ("go", ((1,),), STOP),
                      ("go", ((1, STOP, STOP),), STOP), ("go", (1, STOP), STOP), ("go", "", STOP), ("", (), STOP),
                      ("stop", (), STOP), ("go", (STOP,), STOP), ("go", (("1", STOP),), STOP), ("go", (), "stop"),
                      ("go", (), None), ("go", None, STOP), ("go", ((1, "stop"),), STOP), ({"stop": 1},)):
            self.no(thing)

    def test_things_by_chance_as_the_document_says(self):
        chooser = random.Random(57)
        seen = {True: 0, False: 0}
        for turn in range(1500):
            rule = by_chance(chooser, chooser.randrange(3, 6))

            def deep(inner):
                return 0 if inner == STOP else 1 + max([deep(inner[2]), *[deep(case[1]) for case in inner[1]]])

            due = deep(rule) <= 4 and size(rule) <= 60
            self.assertIs(is_rule(rule), due)
            seen[due] += 1
        self.assertTrue(min(seen.values()) > 100)

    def test_what_is_asked_stays_as_it_was(self):
        asked = [["stop"], ("go", [(1, STOP)], STOP), ("go", ((1, ["stop"]),), STOP)]
        copies = copy.deepcopy(asked)
        for thing in asked * 2:
            self.no(thing)
        self.assertEqual(asked, copies)


class RuleEnds(Told):
    def ends(self, told, rule):
        found = rule_ends(told, rule)
        self.assertIs(type(found), list)
        expected = plain_ends(told, rule)
        self.assertEqual([one[:2] for one in found], sorted(expected))
        for one in found:
            self.assertEqual([type(part) for part in one], [int, int, tuple])
            self.assertEqual((type(one), len(one)), (tuple, 3))
            self.one(one[2], expected[one[:2]])
            self.assertGreater(one[2][0], 0)
        self.assertEqual(found, sorted(found))
        self.assertEqual(sum(number(one[2]) for one in found), 1)

    def test_by_written_numbers(self):
        self.assertEqual(rule_ends(COIN, STOP), [(0, 0, (1, 1))])
        self.assertEqual(rule_ends(COIN, go([])), [(1, 1, (1, 2)), (1, 2, (1, 2))])
        self.assertEqual(rule_ends(COIN, goes(2)), [(2, 2, (1, 4)), (2, 3, (1, 2)), (2, 4, (1, 4))])
        self.assertEqual(rule_ends(COIN, go([(1, go([]))])), [(1, 2, (1, 2)), (2, 2, (1, 4)), (2, 3, (1, 4))])
        self.assertEqual(rule_ends(life("0 1"), go([(1, goes(3))])), [(1, 2, (1, 1))])
        self.assertEqual(rule_ends(life("0 1 0"), go([(2, go([])), (3, STOP)])), [(2, 4, (1, 1))])

    def test_by_going_through_all(self):
        for told in LIVES:
            for rule in RULES:
                self.ends(told, rule)

    def test_rules_by_chance(self):
        chooser = random.Random(58)
        for turn in range(150):
            rule = by_chance(chooser)
            if is_rule(rule):
                self.ends(chooser.choice(LIVES), rule)

    def test_cases_of_stretches_that_the_life_hasnt(self):
        for told in LIVES:
            self.assertEqual(rule_ends(told, go([(13, goes(3)), (50, goes(2)), (GREAT, goes(1))], go([]))),
                             rule_ends(told, goes(2)))
        self.assertEqual(rule_ends(life("0 0 1"), go([(1, goes(3)), (2, goes(3)), (4, goes(3))])), [(1, 3, (1, 1))])

    def test_where_all_stretches_stand_in_cases(self):
        self.assertEqual(rule_ends(COIN, go([(1, STOP), (2, STOP)], goes(3))), [(1, 1, (1, 2)), (1, 2, (1, 2))])

    def test_a_told_list_is_the_askers_own(self):
        first = rule_ends(COIN, goes(2))
        kept = list(first)
        first.append("x")
        first[0] = None
        self.assertEqual(rule_ends(COIN, goes(2)), kept)
        rule_ends(COIN, STOP).clear()
        self.assertEqual(rule_ends(COIN, STOP), [(0, 0, (1, 1))])


class RuleMeans(Told):
    def test_by_written_numbers(self):
        self.assertEqual(rule_means(COIN, STOP), ((0, 1), (0, 1)))
        self.assertEqual(rule_means(COIN, go([])), ((1, 1), (3, 2)))
        self.assertEqual(rule_means(COIN, go([(1, go([]))])), ((3, 2), (9, 4)))
        self.assertEqual(rule_means(life("0 1"), goes(4)), ((4, 1), (8, 1)))

    def test_the_means_of_what_is_told(self):
        for told in LIVES:
            for rule in RULES:
                expected = plain_ends(told, rule)
                self.right(rule_means(told, rule), [sum(key[0] * chance for key, chance in expected.items()),
                                                    sum(key[1] * chance for key, chance in expected.items())])

    def test_beats_are_many_times_the_mean_of_a_stretch(self):
        chooser = random.Random(59)
        rules = [*RULES, *[rule for rule in (by_chance(chooser) for turn in range(60)) if is_rule(rule)]]
        for told in LIVES:
            for rule in rules:
                many, beats = rule_means(told, rule)
                self.one(beats, number(many) * number(mean(told)))


class Passed(Told):
    def test_by_written_numbers(self):
        self.assertEqual(passed(COIN, 0), ((1, 1), (3, 2)))
        self.assertEqual(passed(COIN, 1), ((3, 2), (9, 4)))
        self.assertEqual(passed(GEOMETRIC, 20), ((11, 1), (22, 1)))
        self.assertEqual(passed(life("0 1"), 3), ((2, 1), (4, 1)))

    def test_one_and_many_beat_and_mean_left(self):
        for told in FULL:
            for beat in (0, 1, 2, 7, 20):
                found = passed(told, beat)
                self.right(found, [1 + number(many_by(told, beat)), beat + number(mean_left(told, beat))])
                self.one(found[1], number(found[0]) * middle(told))

    def test_by_all_ways(self):
        for told in FULL:
            for beat in range(6):
                stretches = sum((put(told, n) for n in range(beat + 1)), Fraction(0))
                # What stands was put at n: it ends behind the beat, in the mean n and what the stretch is then.
                ends = Fraction(0)
                for n in range(beat + 1):
                    over = middle(told) - sum((k * at(told, k) for k in range(1, beat - n + 1)), Fraction(0))
                    ends += put(told, n) * (over + n * last(told, beat - n))
                self.right(passed(told, beat), [stretches, ends])

    def test_it_is_the_rule_that_stops_behind_the_beat(self):
        for told in LIVES:
            for beat in range(4):
                self.assertEqual(passed(told, beat), rule_means(told, until_behind(beat)))

    def test_what_is_handed_in_stays_and_the_same_is_told_twice(self):
        copies = copy.deepcopy((LIVES, RULES))

        def asked():
            return [(rule_ends(told, rule), rule_means(told, rule), passed(told, 20))
                    for told in LIVES for rule in RULES]

        self.assertEqual(asked(), asked())
        self.assertEqual((LIVES, RULES), copies)


if __name__ == "__main__":
    unittest.main()
