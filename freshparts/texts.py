"""Writes LIVES and KINDS as texts and reads them again."""
from freshparts.errors import NoLines, NoText
from freshparts.kinds import MOST_KINDS, is_triple
from freshparts.lives import is_chance, is_life
from freshparts.ratios import NOUGHT, ONE, is_below, plus

FIGURES = "0123456789"
MOST_FIGURES = 3
NONE = "-"
BEFORE_STEP = ";"


def ratio_text(told):
    """A RATIO as it is written."""
    top, bottom = told
    return str(top) if bottom == 1 else f"{top}/{bottom}"


def ratios_text(told):
    """RATIOS parted by single blanks."""
    return " ".join([ratio_text(one) for one in told])


def life_text(life):
    """A LIFE as it is written."""
    row, step = life
    text = ratios_text(row) if row else NONE
    return text if step == NOUGHT else f"{text} {BEFORE_STEP} {ratio_text(step)}"


def kinds_lines(kinds):
    """KINDS as they are written: a list, a line for each kind."""
    return [" ".join([triple_text(triple) for triple in triples]) if triples else NONE for triples in kinds]


def triple_text(triple):
    """A triple of a kind as it is written."""
    stretch, follower, chance = triple
    return f"{stretch}>{follower}:{ratio_text(chance)}"


def read_number(word):
    """The whole number that a word of at most three figures writes; None where it writes none."""
    if not 1 <= len(word) <= MOST_FIGURES or any(sign not in FIGURES for sign in word):
        return None
    number = int(word)
    return number if str(number) == word else None


def read_chance(word):
    """The CHANCE that a word writes; None where it writes none."""
    top, slash, bottom = word.partition("/")
    chance = (read_number(top), read_number(bottom) if slash else 1)
    # Written anew it has to be the very word: so no bottom of 1 is written out.
    return chance if is_chance(chance) and ratio_text(chance) == word else None


def read_triple(word, many):
    """The triple of one of so many kinds that a word writes; None where it writes none."""
    stretch, arrow, rest = word.partition(">")
    follower, colon, chance = rest.partition(":")
    triple = (read_number(stretch), read_number(follower), read_chance(chance))
    return triple if is_triple(triple, many) else None


def read_life(text):
    """The LIFE that a text writes; refused with the number of the first word that can't stand."""
    words = text.split(" ")
    if words[0] == NONE:
        if len(words) > 1:
            raise NoText(1)
        return ((), NOUGHT)
    row = read_row(words)
    end = len(row)
    if end == len(words):
        return (row, NOUGHT)
    if end == 0 or words[end] != BEFORE_STEP:
        raise NoText(end)
    return (row, read_step(row, words))


def read_row(words):
    """The CHANCES that the first words write, together at most one: a tuple of as many as can stand."""
    row = []
    total = NOUGHT
    for word in words:
        chance = read_chance(word)
        if chance is None:
            break
        total = plus(total, chance)
        if is_below(ONE, total):
            break
        row.append(chance)
    return tuple(row)


def read_step(row, words):
    """The step that the word behind the semicolon writes, the last one of all."""
    place = len(row) + 1
    if place == len(words):
        raise NoText(place)
    step = read_chance(words[place])
    if step is None or step == NOUGHT or not is_life((row, step)):
        raise NoText(place)
    if place + 1 < len(words):
        raise NoText(place + 1)
    return step


def read_kinds(lines):
    """The KINDS that lines write; refused with the first line and its first word that can't stand."""
    if not lines:
        raise NoLines(0, 0)
    many = min(len(lines), MOST_KINDS)
    kinds = []
    for place, line in enumerate(lines):
        if place == MOST_KINDS:
            raise NoLines(place, 0)
        words = line.split(" ")
        kind = () if words[0] == NONE else read_kind(words, many)
        # A - stands for no triple, and alone.
        end = 1 if words[0] == NONE else len(kind)
        if end < len(words):
            raise NoLines(place, end)
        kinds.append(kind)
    return tuple(kinds)


def read_kind(words, many):
    """The triples of one of so many kinds that the first words write: a tuple of as many as can stand."""
    kind = []
    total = NOUGHT
    for word in words:
        triple = read_triple(word, many)
        if triple is None or (kind and triple[:2] <= kind[-1][:2]):
            break
        total = plus(total, triple[2])
        if is_below(ONE, total):
            break
        kind.append(triple)
    return tuple(kind)
