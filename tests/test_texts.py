"""[60], [61]: LIVES and KINDS written and read."""
import copy
import random
import re
import unittest
from fractions import Fraction
from math import gcd

from freshparts.errors import FreshError, NoLines, NoText
from freshparts.ever import even_first
from freshparts.kinds import is_kinds, lent
from freshparts.lives import is_life
from freshparts.making import behind
from freshparts.texts import kinds_lines, life_text, read_kinds, read_life

from byhand import ALL_KINDS, COIN, EMPTY, GEOMETRIC, SAMPLES, kinds, life, pair

# Words that can stand somewhere, and words that can't anywhere.
WORDS = ("0", "1", "1/2", "1/3", "2/3", "1/4", "1/999", "998/999", "500/999", "3/4", "-", ";", "1/100")
WRONG = ("", "2", "00", "01", "10", "-1", "-0", "-1/2", "+1", "1/1", "0/1", "0/2", "1/0", "0/0", "2/4", "4/2", "3/2",
         "02/3",
         "2/03", "1/2/3", "/2", "1/", "/", "--", ";;", "1;", ";1", "1/1000", "999/1000", "1000", "1000/1001", "0001/2",
         "1/-2", "-1/-2", "1.5", "0.5", "1/2.", "a", "1/a", "(1, 2)", "1,2", "1_0", "1/1_1", "1/2;", "-;", "1>0:1",
         "~", "!",
         "1" * 900, "1/" + "9" * 900, "none", "1\\2", "1:2")


def plain_chance(word):
    """The CHANCE that a word writes, a Fraction, or None."""
    if word in ("0", "1"):
        return Fraction(int(word))
    found = re.fullmatch(r"([1-9][0-9]{0,2})/([1-9][0-9]{0,2})", word)
    if not found:
        return None
    top, bottom = int(found[1]), int(found[2])
    return Fraction(top, bottom) if top < bottom and gcd(top, bottom) == 1 else None


def due_life(text):
    """The LIFE that a text writes, or the number of the word that can't stand, by the document's words."""
    words = text.split(" ")
    row = []
    for at, word in enumerate(words):
        ahead = words[:at]
        chance = plain_chance(word)
        if at == 0:
            stands = chance is not None or word == "-"
        elif "-" in ahead:
            stands = False
        elif ahead[-1] == ";":
            by = row[-1] * chance / (1 - chance) if chance is not None and 0 < chance < 1 else 2
            stands = sum(row) + by <= 1
        elif ";" in ahead:
            stands = False
        else:
            stands = word == ";" or (chance is not None and sum(row) + chance <= 1)
        if not stands:
            return at
        if chance is not None and ";" not in ahead:
            row.append(chance)
    if words[-1] == ";":
        return len(words)
    step = plain_chance(words[-1]) if ";" in words else Fraction(0)
    return (tuple(pair(chance) for chance in row), pair(step))


def due_kinds(lines):
    """The KINDS that lines write, or the pair of the line and the word that can't stand."""
    if not lines:
        return (0, 0)
    told = []
    for row, line in enumerate(lines):
        if row == 4:
            return (4, 0)
        kind, total = [], Fraction(0)
        words = line.split(" ")
        for at, word in enumerate(words):
            if word == "-" and at == 0:
                continue
            found = re.fullmatch(r"([1-6])>([0-3]):([0-9/]+)", word)
            chance = plain_chance(found[3]) if found else None
            if words[0] == "-" or not chance or int(found[2]) >= len(lines):
                return (row, at)
            mark = (int(found[1]), int(found[2]))
            total += chance
            if kind and mark <= kind[-1][:2] or total > 1:
                return (row, at)
            kind.append((*mark, pair(chance)))
        told.append(tuple(kind))
    return tuple(told)


class Reading(unittest.TestCase):
    def reads(self, text, expected):
        found = read_life(text)
        self.assertEqual(found, expected)
        self.assertIs(is_life(found), True)
        self.assertEqual([type(found), type(found[0]), type(found[1])], [tuple] * 3)

    def refuses(self, text, at):
        with self.assertRaises(FreshError) as caught:
            read_life(text)
        self.assertIs(type(caught.exception), NoText, text)
        self.assertEqual(caught.exception.at, at, text)
        self.assertIs(type(caught.exception.at), int)

    def as_due(self, text):
        expected = due_life(text)
        if isinstance(expected, int):
            self.refuses(text, expected)
        else:
            self.reads(text, expected)
            self.assertEqual(life_text(expected), text)
        return isinstance(expected, tuple)


class LifeText(Reading):
    def test_by_written_texts(self):
        for told, text in ((EMPTY, "-"), (COIN, "1/2 1/2"), (GEOMETRIC, "1/2 ; 1/2"), (life("1"), "1"),
                           (life("0 1"), "0 1"),
                           (life("0 0 0"), "0 0 0"), (life("0", "1/2"), "0 ; 1/2"),
                           (life("1 0 0", "8/9"), "1 0 0 ; 8/9"),
                           (life("1/2 1/4 0 0"), "1/2 1/4 0 0"), (life("1/999 998/999"), "1/999 998/999")):
            found = life_text(told)
            self.assertEqual(found, text)
            self.assertIs(type(found), str)
            self.reads(text, told)

    def test_numbers_of_many_figures(self):
        great = 10 ** 599 + 7
        self.assertEqual(life_text((((1, great), (great - 1, great)), (0, 1))), f"1/{great} {great - 1}/{great}")
        told = even_first(life("1/999999937 999999936/999999937"))
        self.assertEqual(life_text(told), "999999937/1999999873 999999936/1999999873")

    def test_each_life_written_and_read_again_is_the_very_same(self):
        for told in SAMPLES:
            if all(chance[1] < 1000 for chance in told[0]):
                self.reads(life_text(told), told)

    def test_lives_by_chance(self):
        chooser = random.Random(60)
        for turn in range(500):
            row = []
            for place in range(chooser.randrange(1, 13)):
                bottom = chooser.choice((1, 2, 4, 7, 999, 640))
                chance = Fraction(chooser.randrange(bottom + 1), bottom) / chooser.choice((1, 1, 2))
                if sum(row) + chance <= 1 and chance.denominator < 1000:
                    row.append(chance)
            told = (tuple(pair(chance) for chance in row), pair(Fraction(chooser.randrange(9), 9)))
            if is_life(told):
                self.reads(life_text(told), told)


class ReadLife(Reading):
    def test_signs_alone(self):
        self.refuses("", 0)
        for text in (" ", "  ", "   ", ";", "; 1/2", " 1/2", " -", " ;", "--", " " * 2000, ";" * 2000):
            self.refuses(text, 0)

    def test_blanks(self):
        self.refuses("1/2 ", 1)
        self.refuses("1/2  1/2", 1)
        self.refuses("1/2 1/2 ", 2)
        self.refuses("1/2 ;", 2)
        self.refuses("1/2 ; ", 2)
        self.refuses("1/2 ;  1/2", 2)
        self.refuses("1/2  ; 1/2", 1)
        self.refuses("1/2 ; 1/2 ", 3)
        self.refuses("- ", 1)
        self.refuses("-  ", 1)

    def test_semicolons(self):
        self.refuses("1/4 ; ;", 2)
        self.refuses("1/4 ;;", 1)
        self.refuses("1/4 ; ; 1/2", 2)
        self.refuses("1/4 ; 1/2 ;", 3)
        self.refuses("1/4 ; 1/2 ; 1/2", 3)
        self.refuses("1/4; 1/2", 0)
        self.refuses("1/4 ;1/2", 1)
        self.refuses("1 ;", 2)
        self.refuses("0 0 ;", 3)

    def test_behind_a_dash(self):
        for word in (*WORDS, *WRONG):
            self.refuses(f"- {word}", 1)
            self.refuses(f"- {word} 1/2", 1)
        self.refuses("1/2 -", 1)
        self.refuses("1/2 ; -", 2)

    def test_words_that_write_no_chance(self):
        for word in WRONG:
            self.refuses(word, 0)
            self.refuses(f"{word} 1/2", 0)
            self.refuses(f"1/4 {word}", 1)
            self.refuses(f"1/4 0 {word} 1/4", 2)
            self.refuses(f"1/4 ; {word}", 2)
            self.refuses(f"1/4 ; 1/2 {word}", 3)

    def test_together_more_than_one_at_a_word(self):
        self.refuses("1 1", 1)
        self.refuses("1/2 1/2 1/999", 2)
        self.reads("1/2 1/2 0", life("1/2 1/2 0"))
        self.reads("998/999 1/999", life("998/999 1/999"))
        self.refuses("998/999 1/998", 1)
        self.refuses("0 1 0 0 1/2 1/2", 4)
        self.refuses("1/2 3/4 x", 1)

    def test_steps(self):
        self.reads("1/2 ; 1/2", GEOMETRIC)
        self.refuses("1/2 ; 2/3", 2)
        self.refuses("1/2 ; 501/1001", 2)
        self.refuses("1/2 ; 499/999 x", 3)
        self.refuses("1/2 ; 500/999", 2)
        self.refuses("1/2 ; 0", 2)
        self.refuses("1/2 ; 1", 2)
        self.refuses("0 ; 0", 2)
        self.refuses("0 ; 1", 2)
        self.reads("0 ; 998/999", life("0", "998/999"))
        self.reads("1 0 ; 998/999", life("1 0", "998/999"))
        self.refuses("1 ; 1/999", 2)
        self.refuses("0 1 ; 1/2 1/2", 3)
        self.reads("1/999 ; 998/999", life("1/999", "998/999"))
        self.refuses("2/999 ; 998/999", 2)

    def test_a_hundred_words(self):
        self.reads(" ".join(["0"] * 100), (((0, 1),) * 100, (0, 1)))
        self.reads(" ".join(["1/100"] * 100), (((1, 100),) * 100, (0, 1)))
        self.refuses(" ".join(["1/99"] * 100), 99)
        self.reads(" ".join(["1/98"] * 49 + [";", "49/50"]), (((1, 98),) * 49, (49, 50)))
        self.refuses(" ".join(["1/98"] * 49 + [";", "50/51"]), 50)

    def test_texts_by_chance_as_the_document_says(self):
        chooser = random.Random(61)
        read = 0
        for turn in range(20000):
            many = chooser.randrange(1, 7)
            words = [chooser.choice(WORDS if chooser.random() < 0.97 else WRONG) for place in range(many)]
            if many > 2 and chooser.random() < 0.4:
                words[-2] = ";"
            read += self.as_due(" ".join(words))
        self.assertGreater(read, 2000)

    def test_signs_by_chance(self):
        chooser = random.Random(62)
        for turn in range(20000):
            self.as_due("".join(chooser.choice("0112/ ;-") for place in range(chooser.randrange(12))))

    def test_each_changed_sign(self):
        signs = [chr(code) for code in range(32, 127) if chr(code) != "%"]
        for text in ("1/2 1/4 ; 1/3", "-", "0 1", "1/999 12/37"):
            for place in range(len(text) + 1):
                for sign in signs:
                    self.as_due(text[:place] + sign + text[place:])
                    self.as_due(text[:place] + sign + text[place + 1:])

    def test_the_same_is_told_twice(self):
        for turn in range(2):
            self.reads("1/2 ; 1/2", GEOMETRIC)
            self.refuses("1/2 ; 2/3", 2)


class ReadingLines(unittest.TestCase):
    def reads(self, lines, expected):
        found = read_kinds(lines)
        self.assertEqual(found, expected)
        self.assertIs(is_kinds(found), True)

    def refuses(self, lines, row, word):
        with self.assertRaises(FreshError) as caught:
            read_kinds(lines)
        self.assertIs(type(caught.exception), NoLines, lines)
        self.assertEqual((caught.exception.row, caught.exception.word), (row, word), lines)
        self.assertEqual((type(caught.exception.row), type(caught.exception.word)), (int, int))

    def as_due(self, lines):
        expected = due_kinds(lines)
        if expected and type(expected[0]) is int:
            self.refuses(lines, *expected)
            return False
        self.reads(lines, expected)
        self.assertEqual(kinds_lines(expected), lines)
        return True


class KindsLines(ReadingLines):
    def test_by_written_lines(self):
        for told, lines in ((kinds(""), ["-"]), (kinds("1>0:1"), ["1>0:1"]), (kinds("", "6>0:1/2"), ["-", "6>0:1/2"]),
                            (lent(COIN, life("0 1/3")), ["1>1:1/2 2>1:1/2", "2>0:1/3"])):
            found = kinds_lines(told)
            self.assertEqual(found, lines)
            self.assertIs(type(found), list)
            self.assertEqual([type(line) for line in found], [str] * len(found))
            self.reads(lines, told)

    def test_each_kinds_written_and_read_again_are_the_very_same(self):
        for told in ALL_KINDS:
            self.reads(kinds_lines(told), told)
            self.assertTrue(self.as_due(kinds_lines(told)))

    def test_numbers_of_many_figures(self):
        great = 10 ** 599 + 7
        self.assertEqual(kinds_lines((((1, 0, (1, great)),),)), [f"1>0:1/{great}"])
        told = lent(life("1/999999937 0 3/100000007"), behind(COIN, life("1/123456789 2/999999929")))
        self.assertEqual(len(kinds_lines(told)), 2)

    def test_a_told_list_is_the_askers_own(self):
        told = kinds("1>0:1/2", "")
        told = (told[0], ())
        first = kinds_lines(told)
        first.append("x")
        first[0] = "y"
        self.assertEqual(kinds_lines(told), ["1>0:1/2", "-"])


class ReadKinds(ReadingLines):
    def test_no_line_and_lines_without_signs(self):
        self.refuses([], 0, 0)
        self.refuses([""], 0, 0)
        self.refuses(["-", ""], 1, 0)
        self.refuses(["", ""], 0, 0)
        self.refuses([" "], 0, 0)
        self.refuses(["1>0:1/2 "], 0, 1)
        self.refuses([" 1>0:1/2"], 0, 0)
        self.refuses(["1>0:1/2  2>0:1/2"], 0, 1)

    def test_one_to_four_lines_and_a_fifth(self):
        for many in range(1, 5):
            self.reads(["-"] * many, ((),) * many)
        self.refuses(["-"] * 5, 4, 0)
        self.refuses(["-"] * 4 + [""], 4, 0)
        self.refuses(["-"] * 4 + ["1>0:1", "x"], 4, 0)
        self.refuses(["-"] * 2000, 4, 0)
        self.refuses(["-", "x", "-", "-", "-"], 1, 0)
        self.refuses(["-", "-", "-", "- -", "-"], 3, 1)

    def test_next_is_the_number_of_one_of_the_lines(self):
        for many in range(1, 7):
            for follower in range(8):
                lines = ["-"] * (many - 1) + [f"2>{follower}:1/2"]
                if many > 4:
                    self.refuses(lines, 4, 0)
                    lines = lines[::-1]
                if follower < min(many, 4) and many <= 4:
                    self.reads(lines, ((),) * (many - 1) + (((2, follower, (1, 2)),),))
                elif follower < min(many, 4):
                    self.refuses(lines, 4, 0)
                else:
                    self.refuses(lines, 0 if many > 4 else many - 1, 0)
        self.refuses(["1>4:1", "-", "-", "-", "-"], 0, 0)
        self.refuses(["1>0:1/2 1>1:1/2"], 0, 1)

    def test_words_that_write_no_triple(self):
        for word in ("", "1", "1>0", "1>0:", "1:0>1", ">0:1", "1>:1", "0>0:1", "7>0:1", "01>0:1", "1>00:1", "1>0:01",
                     "1>0:0",
                     "1>0:2", "1>0:1/1", "1>0:2/4", "1>0:-1/2", "-1>0:1", "1>-0:1", "1>-1:1", "1>0:1/1000",
                     "1>0:1000/1001",
                     "10>0:1", "1>10:1", "1>0:1:1", "1>0>0:1", "1 > 0 : 1", "1>0:1,", "1>0 :1", "1>0: 1", "--", ";",
                     "1/2",
                     "1>0:1;", "a>0:1", "1>a:1", "1>0:a", "1>0:", "1>0:;", "+1>0:1", "1>0:+1", "1000>0:1", "1>1000:1",
                     "1>0:0/1", "1>0:1/0", "1>0:3/2", "1>0:" + "1" * 900, "1" * 900 + ">0:1"):
            self.refuses([word], 0, 0)
            self.refuses(["-", "1>1:1/2 " + word], 1, 1)
            self.refuses([word, "-"], 0, 0)
            self.refuses(["- " + word], 0, 1)

    def test_behind_a_dash_and_a_dash_behind(self):
        self.refuses(["- -"], 0, 1)
        self.refuses(["- 1>0:1"], 0, 1)
        self.refuses(["- "], 0, 1)
        self.refuses(["1>0:1/2 -"], 0, 1)
        self.refuses(["-", "- 1>0:1"], 1, 1)

    def test_not_greater_than_the_one_ahead(self):
        self.refuses(["1>0:1/4 1>0:1/4"], 0, 1)
        self.refuses(["1>0:1/4 1>0:1/2"], 0, 1)
        self.refuses(["2>0:1/4 1>0:1/4"], 0, 1)
        self.refuses(["1>1:1/4 1>0:1/4", "-"], 0, 1)
        self.refuses(["1>0:1/4 2>0:1/4 2>0:1/4"], 0, 2)
        self.reads(["1>1:1/4 2>0:1/4", "-"], (((1, 1, (1, 4)), (2, 0, (1, 4))), ()))

    def test_with_it_more_than_one(self):
        self.refuses(["1>0:1 2>0:1/999"], 0, 1)
        self.refuses(["1>0:1/2 2>0:1/2 3>0:1/999"], 0, 2)
        self.refuses(["1>0:1", "1>0:998/999 2>0:1/998"], 1, 1)
        self.reads(["1>0:998/999 2>0:1/999"], (((1, 0, (998, 999)), (2, 0, (1, 999))),))

    def test_the_first_line_and_its_first_word(self):
        self.refuses(["x", "y", "z"], 0, 0)
        self.refuses(["-", "1>0:1 x", "z"], 1, 1)
        self.refuses(["1>0:1/2 x y", ""], 0, 1)

    def test_lines_by_chance_as_the_document_says(self):
        chooser = random.Random(63)
        read = 0
        for turn in range(8000):
            many = chooser.choice((1, 2, 3, 4, 4, 5))
            lines = []
            for row in range(many):
                words = sorted(f"{chooser.randrange(1, 7)}>{chooser.randrange(min(many, 4))}:"
                               f"{chooser.choice(('1/2', '1/3', '1/4', '1/9', '2/9'))}"
                               for place in range(chooser.randrange(1, 4)))
                if chooser.random() < 0.05:
                    words.insert(chooser.randrange(len(words) + 1),
                                 chooser.choice(("-", "", "0>0:1", "7>0:1", "1>4:1", "1>0:0", "1>3:1", "1>0:1", "x")))
                lines.append(chooser.choice(("-", " ".join(words), " ".join(words))))
            read += self.as_due(lines)
        self.assertGreater(read, 2000)

    def test_each_changed_sign(self):
        signs = [chr(code) for code in range(32, 127) if chr(code) != "%"]
        for line in ("1>0:1/2 2>1:1/4", "-", "6>1:1"):
            for place in range(len(line) + 1):
                for sign in signs:
                    self.as_due([line[:place] + sign + line[place:], "-"])
                    self.as_due(["-", line[:place] + sign + line[place + 1:]])

    def test_what_is_handed_in_stays_and_the_same_is_told_twice(self):
        lines = ["1>0:1/2 2>1:1/4", "-"]
        wrong = ["-", "1>0:1 x"]
        copies = copy.deepcopy((lines, wrong, ALL_KINDS))
        for turn in range(2):
            self.reads(lines, (((1, 0, (1, 2)), (2, 1, (1, 4))), ()))
            self.refuses(wrong, 1, 1)
            self.assertEqual([kinds_lines(told) for told in ALL_KINDS], [kinds_lines(told) for told in ALL_KINDS])
        self.assertEqual((lines, wrong, ALL_KINDS), copies)


if __name__ == "__main__":
    unittest.main()
