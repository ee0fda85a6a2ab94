"""[62]: a desk."""
import random
import re
import unittest

from freshparts.counts import counts, many_by
from freshparts.desk import Desk
from freshparts.errors import FreshError, NoAge, NoName, NoRow, NoText, TooMany
from freshparts.evening import even_paper
from freshparts.ever import share
from freshparts.lives import miss, short
from freshparts.making import behind, cut_at, later, left_of
from freshparts.means import mean, round_of
from freshparts.puts import puts
from freshparts.standing import ages
from freshparts.texts import life_text, read_life

NUMBER = "(0|[1-9]|1[0-9]|20)"
NAME = "([a-z]{1,6})"
FORMS = {
    "life": rf"life {NAME} (.*)",
    "drop": rf"drop {NAME}",
    "names": "names",
    "show": rf"show {NAME}",
    "undo": "undo",
    "behind": rf"behind {NAME} {NAME} {NAME}",
    "cut": rf"cut {NAME} {NAME} ([1-9]|1[0-2])",
    "left": rf"left {NAME} {NAME} ([0-9]|1[0-2])",
    "later": rf"later {NAME} {NAME} ([0-4])",
    "ask": rf"(mean|share|round|miss) {NAME}",
    "beat": rf"(put|many|ages|counts|even) {NAME} {NUMBER}",
}
LETTERS = "abcdefghijklmnopqrstuvwxyz"


def written(told):
    return str(told[0]) if told[1] == 1 else f"{told[0]}/{told[1]}"


class PlainDesk:
    """A desk straight from the document's words: undo puts back what all was like ahead."""

    def __init__(self):
        self.kept = {}
        self.before = []

    def say(self, row):
        for form, pattern in FORMS.items():
            found = re.fullmatch(pattern, row)
            if found:
                return getattr(self, form)(row, *found.groups())
        raise NoRow(row)

    def of(self, *names):
        for name in names:
            if name not in self.kept:
                raise NoName(name)
        return [self.kept[name] for name in names]

    def change(self, kept):
        self.before.append(self.kept)
        self.kept = kept

    def keep(self, name, told):
        told = short(told)
        if len(told[0]) > 12 or any(len(str(chance[1])) > 12 for chance in (*told[0], told[1])):
            raise TooMany("life")
        self.change({**self.kept, name: told})
        return life_text(told)

    def life(self, row, name, text):
        return self.keep(name, read_life(text))

    def drop(self, row, name):
        self.of(name)
        self.change({other: told for other, told in self.kept.items() if other != name})
        return "ok"

    def names(self, row):
        return " ".join(sorted(self.kept)) or "-"

    def show(self, row, name):
        return life_text(self.of(name)[0])

    def undo(self, row):
        if not self.before:
            return "none"
        self.kept = self.before.pop()
        return "ok"

    def behind(self, row, name, one, other):
        one, other = self.of(one, other)
        if one[1] != (0, 1) or other[1] != (0, 1):
            raise NoRow(row)
        return self.keep(name, behind(one, other))

    def cut(self, row, name, one, number):
        return self.keep(name, cut_at(*self.of(one), int(number)))

    def left(self, row, name, one, number):
        return self.keep(name, left_of(*self.of(one), int(number)))

    def later(self, row, name, one, number):
        return self.keep(name, later(*self.of(one), int(number)))

    def ask(self, row, word, name):
        told = self.of(name)[0]
        if word == "round":
            return str(round_of(told))
        found = {"mean": mean, "share": share, "miss": miss}[word](told)
        return "none" if found is None else written(found)

    def beat(self, row, word, name, number):
        told, number = self.of(name)[0], int(number)
        if word == "even":
            if miss(told) != (0, 1) or told[1] != (0, 1) or number + 1 < len(told[0]):
                return "none"
            return " ".join(written(bound) for bound in even_paper(told, number)[1:])
        if word in ("put", "many"):
            return written(puts(told, number)[number] if word == "put" else many_by(told, number))
        return " ".join(written(one) for one in {"ages": ages, "counts": counts}[word](told, number))


def outcome(desk, row):
    try:
        return desk.say(row)
    except FreshError as refused:
        return (type(refused).__name__, *vars(refused).values())


class Asked(unittest.TestCase):
    def setUp(self):
        self.desk = Desk()

    def says(self, row, answer):
        found = self.desk.say(row)
        self.assertEqual(found, answer, row)
        self.assertIs(type(found), str)

    def refuses(self, row, kind, *fields):
        with self.assertRaises(FreshError) as caught:
            self.desk.say(row)
        self.assertIs(type(caught.exception), kind, row)
        self.assertEqual(tuple(vars(caught.exception).values()), fields)

    def no_row(self, row):
        with self.assertRaises(FreshError) as caught:
            self.desk.say(row)
        self.assertIs(type(caught.exception), NoRow, row)
        self.assertIs(caught.exception.row, row)


class Rows(Asked):
    def test_by_written_answers(self):
        for row, answer in (
                ("names", "-"), ("undo", "none"), ("life a 1/2 1/2", "1/2 1/2"), ("life b 1/2 ; 1/2", "1/2 ; 1/2"),
                ("names", "a b"), ("show a", "1/2 1/2"), ("behind c a a", "0 1/4 1/2 1/4"),
                ("cut d b 3", "1/2 1/4 1/4"),
                ("left e b 4", "1/2 ; 1/2"), ("left f a 1", "1"), ("left f a 0", "1/2 1/2"),
                ("later g a 4", "0 0 0 0 1/2 1/2"), ("later g b 2", "0 0 1/2 ; 1/2"), ("later g a 0", "1/2 1/2"),
                ("mean a", "3/2"), ("mean b", "2"), ("share a", "2/3"), ("round a", "1"), ("miss a", "0"),
                ("put a 0", "1"), ("put a 1", "1/2"), ("put a 3", "5/8"), ("many a 0", "0"), ("many b 20", "10"),
                ("ages a 0", "1"), ("ages a 3", "5/8 3/8 0 0"), ("counts a 0", "1"), ("counts a 3", "0 1/4 5/8 1/8"),
                ("even a 1", "1/2 1"), ("even a 0", "none"), ("even a 4", "5/8 11/16"), ("even b 20", "none"),
                ("life n -", "-"), ("mean n", "none"), ("share n", "0"), ("round n", "0"), ("miss n", "1"),
                ("put n 20", "0"), ("even n 20", "none"), ("ages n 2", "0 0 1"), ("counts n 2", "1 0 0"),
                ("life h 0 1/3", "0 1/3"), ("mean h", "none"), ("share h", "0"), ("miss h", "2/3"), ("round h", "2"),
                ("even h 20", "none"), ("names", "a b c d e f g h n"), ("drop a", "ok"), ("names", "b c d e f g h n"),
                ("undo", "ok"), ("show a", "1/2 1/2")):
            self.says(row, answer)

    def test_lives_are_kept_short(self):
        self.says("life a 1/2 1/2 0 0 0", "1/2 1/2")
        self.says("even a 1", "1/2 1")
        self.says("life b 1/2 1/4 1/8 ; 1/2", "1/2 ; 1/2")
        self.says("life c 0 0 ; 1/2", "-")
        self.says("life d 1/2 1/2 0 ; 1/2", "1/2 1/2")
        self.says("behind e d d", "0 1/4 1/2 1/4")
        self.says("show d", "1/2 1/2")
        self.says("life f " + " ".join(["1/12"] * 12 + ["0"] * 50), " ".join(["1/12"] * 12))
        self.says("life g " + " ".join(["1/2"] + ["0"] * 98), "1/2")

    def test_names(self):
        for name in ("a", "z", "abcdef", "zzzzzz", *FORMS, "mean", "put", "counts", "none", "ok"):
            self.says(f"life {name} 1", "1")
            self.says(f"show {name}", "1")
            self.says(f"behind {name} {name} {name}", "0 1")
            self.says(f"drop {name}", "ok")
        self.says("names", "-")
        for name in ("", "abcdefg", "A", "aB", "a1", "1", "a-b", "-", "a.", "a_b", "~", "{", "`"):
            for row in (f"life {name} 1", f"drop {name}", f"show {name}", f"cut {name} a 1", f"cut a {name} 1",
                        f"behind {name} a a", f"behind a {name} a", f"behind a a {name}", f"mean {name}",
                        f"put {name} 1"):
                self.no_row(row)

    def test_names_rising(self):
        for name in ("b", "ab", "z", "a", "aa", "ba", "names"):
            self.says(f"life {name} -", "-")
        self.says("names", "a aa ab b ba names z")

    def test_a_word_too_few_and_too_many_blanks_and_other_signs(self):
        self.says("life a 1/2 1/2", "1/2 1/2")
        for row in ("drop a", "names", "show a", "undo", "behind a a a", "cut a a 2", "left a a 1", "later a a 1",
                    "mean a",
                    "share a", "round a", "miss a", "put a 2", "many a 2", "ages a 2", "counts a 2", "even a 2"):
            words = row.split(" ")
            for wrong in (" ".join(words[:-1]), row + " a", row + " 1", row + " ", " " + row, row + "  ", row.upper(),
                          row.replace(" ", "  ") + " ", row + ".", row + " a a a", "x" + row, row[1:], row + " -"):
                if wrong != row:
                    self.no_row(wrong)
            if len(words) > 1:
                self.no_row(row.replace(" ", "  ", 1))
                self.no_row(row.replace(" ", "_"))
        for row in ("", " ", "  ", "life", "life a", "life  1/2", "life", " life a 1", "Life a 1", "lifea 1", "ask a",
                    "beat a 1",
                    "-", "a", "1", "x" * 2000, "names names", "undo undo", "life ab1 1", "life abcdefg 1"):
            self.no_row(row)
        self.says("names", "a")
        self.says("show a", "1/2 1/2")

    def test_numbers_at_their_bounds_and_beyond(self):
        self.says("life a 1/2 ; 1/2", "1/2 ; 1/2")
        least = {"cut": 1}
        most = {"cut": 12, "left": 12, "later": 4}
        for word in ("cut", "left", "later", "put", "many", "ages", "counts", "even"):
            begin = f"{word} b a" if word in most else f"{word} a"
            for number in range(least.get(word, 0), most.get(word, 20) + 1):
                self.assertIs(type(self.desk.say(f"{begin} {number}")), str)
            for number in (least.get(word, 0) - 1, most.get(word, 20) + 1, 21, 99, 100, 10 ** 30, "00", "01", "012",
                           "+1",
                           "-0", "1.0", "1/2", "a", "", "-", "1_0", "0x1", "007"):
                self.no_row(f"{begin} {number}")

    def test_the_even_paper_by_how_long_the_row_is(self):
        self.says("life a 0 0 1/2 0 1/2", "0 0 1/2 0 1/2")
        for number in range(4):
            self.says(f"even a {number}", "none")
        self.says("even a 4", "0 1")
        self.says("life b 1", "1")
        self.says("even b 0", "1 1")


class Refusals(Asked):
    def test_names_that_are_not_kept_the_first_such(self):
        self.says("life a 1", "1")
        for row in ("drop x", "show x", "behind n x a", "behind n a x", "behind x x x", "cut n x 1", "left n x 1",
                    "later n x 1",
                    "mean x", "share x", "round x", "miss x", "put x 1", "many x 1", "ages x 1", "counts x 1",
                    "even x 1",
                    "behind n x y"):
            self.refuses(row, NoName, "x")
        self.refuses("behind n y x", NoName, "y")
        self.says("names", "a")

    def test_no_row_ahead_of_all_else(self):
        self.no_row("put x 21")
        self.no_row("cut n x 0")
        self.no_row("later n x 5")
        self.no_row("left n x 13")
        self.no_row("life A x")
        self.no_row("behind N x y")

    def test_behind_of_one_that_isnt_bounded_behind_no_name(self):
        self.says("life a 1/2 ; 1/2", "1/2 ; 1/2")
        self.says("life b 1", "1")
        self.refuses("behind n a x", NoName, "x")
        self.refuses("behind n x a", NoName, "x")
        for row in ("behind n a b", "behind n b a", "behind n a a", "behind a a a"):
            self.no_row(row)
        self.says("names", "a b")

    def test_texts_that_cant_be_read(self):
        for text, at in (("", 0), (" ", 0), ("x", 0), ("1/2 x", 1), ("1/2  1/2", 1), ("1/2 ;", 2), ("- -", 1),
                         (" 1", 0),
                         ("1/2 1/2 1/2", 2), ("1 ; 1/2", 2), (" ".join(["1/99"] * 100), 99), ("1/1000", 0)):
            self.refuses("life a " + text, NoText, at)
            self.says("names", "-")
        self.says("undo", "none")

    def test_ages_that_none_comes_to(self):
        self.says("life a 1/2 1/2", "1/2 1/2")
        for age in range(2, 13):
            self.refuses(f"left b a {age}", NoAge, age)
        self.refuses("left a a 2", NoAge, 2)
        self.says("names", "a")

    def test_too_many_behind_all_else(self):
        long = " ".join(["1/13"] * 13)
        self.refuses("life a " + long, TooMany, "life")
        self.refuses("life a " + long + " x", NoText, 13)
        self.refuses("life a " + " ".join(["1/26"] * 12 + ["1/13", ";", "1/2"]), TooMany, "life")
        self.says("life a " + " ".join(["1/12"] * 12), " ".join(["1/12"] * 12))
        self.refuses("later b a 1", TooMany, "life")
        self.refuses("behind b a a", TooMany, "life")
        self.refuses("later a a 4", TooMany, "life")
        self.says("later b a 0", " ".join(["1/12"] * 12))
        self.says("names", "a b")
        self.says("life c 0 0 0 0 0 0 1", "0 0 0 0 0 0 1")
        self.refuses("behind d c c", TooMany, "life")
        self.says("life e 0 0 0 0 0 1", "0 0 0 0 0 1")
        self.says("behind d e e", "0 0 0 0 0 0 0 0 0 0 0 1")
        self.refuses("behind d e c", TooMany, "life")

    def test_bottoms_of_more_than_twelve_figures(self):
        self.says("life a 1/997", "1/997")
        self.says("behind b a a", "0 1/994009")
        self.says("behind c b b", "0 0 0 1/988053892081")
        self.refuses("behind d c a", TooMany, "life")
        self.refuses("behind c c b", TooMany, "life")
        self.says("show c", "0 0 0 1/988053892081")
        self.says("later e c 4", "0 0 0 0 0 0 0 1/988053892081")
        self.says("life h 1/100 1/100", "1/100 1/100")
        self.says("behind i h h", "0 1/10000 1/5000 1/10000")
        self.says("behind j i i", "0 0 0 1/100000000 1/25000000 3/50000000 1/25000000 1/100000000")
        self.refuses("behind k j i", TooMany, "life")
        self.says("cut k j 12", "0 0 0 1/100000000 1/25000000 3/50000000 1/25000000 1/100000000 0 0 0 6249999/6250000")

    def test_what_is_refused_changes_nothing(self):
        self.says("life a 1/2 1/2", "1/2 1/2")
        rows = ("life a x", "cut a zz 1", "left a a 2", "later a a 5", "behind a a x", "drop zz", "undo x", "nothing",
                "life a " + " ".join(["1/13"] * 13))
        for row in rows:
            with self.assertRaises(FreshError):
                self.desk.say(row)
            self.says("names", "a")
            self.says("show a", "1/2 1/2")
        self.says("undo", "ok")
        self.says("undo", "none")
        for row in rows:
            with self.assertRaises(FreshError):
                self.desk.say(row)
        self.says("undo", "none")


class Undo(Asked):
    def test_of_a_keeping(self):
        self.says("life a 1", "1")
        self.says("undo", "ok")
        self.says("names", "-")
        self.refuses("show a", NoName, "a")
        self.says("undo", "none")

    def test_of_one_put_in_the_place_of_another(self):
        self.says("life a 1", "1")
        self.says("life a 1/2", "1/2")
        self.says("cut a a 2", "1/2 1/2")
        self.says("undo", "ok")
        self.says("show a", "1/2")
        self.says("undo", "ok")
        self.says("show a", "1")
        self.says("undo", "ok")
        self.says("names", "-")

    def test_of_a_keeping_of_the_same(self):
        self.says("life a 1", "1")
        self.says("life a 1", "1")
        self.says("undo", "ok")
        self.says("names", "a")
        self.says("undo", "ok")
        self.says("names", "-")

    def test_of_a_dropping(self):
        self.says("life a 1", "1")
        self.says("life b 0 1", "0 1")
        self.says("drop a", "ok")
        self.says("undo", "ok")
        self.says("show a", "1")
        self.says("drop b", "ok")
        self.says("drop a", "ok")
        self.says("names", "-")
        self.says("undo", "ok")
        self.says("names", "a")
        self.says("undo", "ok")
        self.says("names", "a b")
        self.says("undo", "ok")
        self.says("names", "a")

    def test_of_all_then_anew(self):
        for name in LETTERS:
            self.says(f"life {name} -", "-")
        for many in range(25, -1, -1):
            self.says("undo", "ok")
            self.says("names", " ".join(LETTERS[:many]) or "-")
        for turn in range(3):
            self.says("undo", "none")
        self.says("life a 1", "1")
        self.says("undo", "ok")
        self.says("undo", "none")

    def test_an_undo_is_not_undone(self):
        self.says("life a 1", "1")
        self.says("life b 1", "1")
        self.says("undo", "ok")
        self.says("undo", "ok")
        self.says("names", "-")

    def test_what_only_asks_is_not_undone(self):
        self.says("life a 1", "1")
        for row in ("names", "show a", "mean a", "put a 3", "even a 3", "ages a 3"):
            self.desk.say(row)
        self.says("undo", "ok")
        self.says("names", "-")

    def test_a_new_one_that_is_one_of_the_others(self):
        self.says("life a 0 1", "0 1")
        self.says("life b 1", "1")
        self.says("behind a a b", "0 0 1")
        self.says("behind b a b", "0 0 0 1")
        self.says("behind a b b", "0 0 0 0 0 0 0 1")
        self.says("undo", "ok")
        self.says("show a", "0 0 1")
        self.says("show b", "0 0 0 1")


class Many(unittest.TestCase):
    TEXTS = ("1", "0 1", "1/2 1/2", "1/2 ; 1/2", "-", "1/3 1/3 1/3", "0 1/3 0 2/3", "1/2 1/4 0 0", "0 ; 1/2",
             "1/7 ; 6/7",
             "1/999 0 5/998", "1/2 x", "", "1/2 1/2 1/2", " ".join(["1/13"] * 13), "1/4 1/4 ; 1/3", "1/997",
             "3/7 1/991")

    def row(self, chooser):
        names = ("a", "b", "c", "dd", "undo")
        one, other, new = (chooser.choice(names) for turn in range(3))
        number = chooser.choice((0, 1, 2, 3, 4, 5, 7, 11, 12, 13, 19, 20, 21))
        small = chooser.randrange(6)
        return chooser.choice((
            f"life {new} {chooser.choice(self.TEXTS)}", f"life {new} {chooser.choice(self.TEXTS)}",
            f"life {new} {chooser.choice(self.TEXTS)}", f"drop {one}", "names", f"show {one}", "undo", "undo",
            f"behind {new} {one} {other}", f"behind {new} {one} {other}", f"cut {new} {one} {number}",
            f"left {new} {one} {small}", f"later {new} {one} {small}", f"mean {one}", f"share {one}", f"round {one}",
            f"miss {one}", f"put {one} {number}", f"many {one} {number}", f"ages {one} {number}",
            f"counts {one} {number}", f"even {one} {number}", f"even {one} 20",
            chooser.choice(("", "names ", "undo x", "life", f"life {new}", f"show {one} ", "put a", "mean A"))))

    def test_many_rows_told_to_one_desk(self):
        seen = set()
        for seed in range(4):
            chooser = random.Random(seed)
            desk, plain = Desk(), PlainDesk()
            for turn in range(1000):
                row = self.row(chooser)
                expected = outcome(plain, row)
                self.assertEqual(outcome(desk, row), expected, row)
                seen.add(expected[0] if isinstance(expected, tuple) else row.split(" ")[0])
        self.assertEqual(seen, {"life", "drop", "names", "show", "undo", "behind", "cut", "left", "later", "mean",
                                "share",
                                "round", "miss", "put", "many", "ages", "counts", "even", "NoRow", "NoName", "NoText",
                                "NoAge",
                                "TooMany"})

    def test_two_desks_by_turns_each_by_itself(self):
        chooser = random.Random(62)
        desks = [(Desk(), PlainDesk()), (Desk(), PlainDesk())]
        for turn in range(1000):
            desk, plain = chooser.choice(desks)
            row = self.row(chooser)
            self.assertEqual(outcome(desk, row), outcome(plain, row), row)

    def test_the_same_is_told_twice(self):
        chooser = random.Random(63)
        rows = [self.row(chooser) for turn in range(300)]
        answers = []
        for turn in range(2):
            desk = Desk()
            answers.append([outcome(desk, row) for row in rows])
        self.assertEqual(*answers)

    def test_rows_with_a_changed_sign(self):
        signs = [chr(code) for code in range(32, 127) if chr(code) != "%"]
        desk, plain = Desk(), PlainDesk()
        for row in ("life a 1/2 1/2", "behind b a a", "cut c a 12", "even a 20", "names"):
            self.assertEqual(desk.say(row), plain.say(row))
            for place in range(len(row) + 1):
                for sign in signs:
                    for changed in (row[:place] + sign + row[place:], row[:place] + sign + row[place + 1:]):
                        self.assertEqual(outcome(desk, changed), outcome(plain, changed), changed)

    def test_answers_of_great_lives(self):
        desk, plain = Desk(), PlainDesk()
        bottoms = (997, 991, 983, 977, 971, 967, 953, 947, 941, 937, 929, 919)
        for row in ("life a " + " ".join(f"1/{bottom}" for bottom in bottoms),
                    "ages a 20", "counts a 20", "put a 20", "many a 20", "cut b a 4", "even b 20", "counts b 20",
                    "left c a 1"):
            self.assertEqual(outcome(desk, row), outcome(plain, row), row)


if __name__ == "__main__":
    unittest.main()
