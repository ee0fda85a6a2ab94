"""What the tests reckon by themselves, with Fractions, straight from the document's words."""
from fractions import Fraction

NOUGHT = (0, 1)
ONE = (1, 1)


def pair(number):
    """A Fraction as a RATIO."""
    return (number.numerator, number.denominator)


def number(told):
    """A RATIO as a Fraction."""
    return Fraction(told[0], told[1])


def life(words, step="0"):
    """The LIFE with the CHANCES of these words ("1/2 1/4") and this step."""
    return (tuple(pair(Fraction(word)) for word in words.split()), pair(Fraction(step)))


def at(told, k):
    """CHANCE AT k, a Fraction."""
    row, step = told
    if k <= len(row):
        return number(row[k - 1])
    if not row:
        return Fraction(0)
    return number(row[-1]) * number(step) ** (k - len(row))


def last(told, k):
    """LASTING k, a Fraction."""
    return 1 - sum((at(told, j) for j in range(1, k + 1)), Fraction(0))


def lack(told):
    """MISS, a Fraction."""
    row, step = told
    if not row:
        return Fraction(1)
    total = sum((number(chance) for chance in row), Fraction(0))
    return 1 - total - number(row[-1]) * number(step) / (1 - number(step))


def ways(beat):
    """All WAYS that COME TO the beat."""
    if beat == 0:
        return [()]
    return [(first, *rest) for first in range(1, beat + 1) for rest in ways(beat - first)]


def way_chance(told, way):
    chance = Fraction(1)
    for k in way:
        chance *= at(told, k)
    return chance


def put(told, beat):
    """PUT at the beat, by going through all WAYS."""
    return sum((way_chance(told, way) for way in ways(beat)), Fraction(0))


# LIVES of all sorts: FULL and not, SHORT and not, with a step and without, the one whose row is ().
EMPTY = life("")
COIN = life("1/2 1/2")
GEOMETRIC = life("1/2", "1/2")
SAMPLES = (
    EMPTY,
    COIN,
    GEOMETRIC,
    life("1"),
    life("0 1"),
    life("0 0 1/3 0 0 2/3"),
    life("1/3"),
    life("1/2 1/4"),
    life("1/2 1/4 0 0"),
    life("0 0 0"),
    life("0", "1/2"),
    life("1/2 1/3 0", "3/4"),
    life("1/3", "1/2"),
    life("1/3", "2/3"),
    life("1/3 2/9 4/27", "2/3"),
    life("0 1/4 1/4", "1/2"),
    life("1/10 0 1/10", "8/9"),
    life("1/10 1/20", "8/9"),
    life("1/2 1/4 1/8 1/16", "1/2"),
    life("1/2 0 1/4", "1/2"),
    life("1/12 1/12 1/12 1/12 1/12 1/12 1/12 1/12 1/12 1/12 1/12 1/12"),
    life("1/999999937 0 3/100000007 1/7 0 0 1/123456789 2/999999929 0 1/3 0 1/987654321", "7/9"),
)
