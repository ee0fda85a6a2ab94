"""What the tests reckon by themselves, with Fractions, straight from the document's words."""
from fractions import Fraction

NOUGHT = (0, 1)
ONE = (1, 1)


def pair(number):
    """A Fraction as a RATIO."""
    return (number.numerator, number.denominator)


def number(told):
    """A RATIO as a Fraction."""
    return Fraction(told[0], told[1])


def life(words, step="0"):
    """The LIFE with the CHANCES of these words ("1/2 1/4") and this step."""
    return (tuple(pair(Fraction(word)) for word in words.split()), pair(Fraction(step)))


def at(told, k):
    """CHANCE AT k, a Fraction."""
    row, step = told
    if k <= len(row):
        return number(row[k - 1])
    if not row:
        return Fraction(0)
    return number(row[-1]) * number(step) ** (k - len(row))


def last(told, k):
    """LASTING k, a Fraction."""
    return 1 - sum((at(told, j) for j in range(1, k + 1)), Fraction(0))


def lack(told):
    """MISS, a Fraction."""
    row, step = told
    if not row:
        return Fraction(1)
    total = sum((number(chance) for chance in row), Fraction(0))
    return 1 - total - number(row[-1]) * number(step) / (1 - number(step))


def ways(beat):
    """All WAYS that COME TO the beat."""
    if beat == 0:
        return [()]
    return [(first, *rest) for first in range(1, beat + 1) for rest in ways(beat - first)]


def way_chance(told, way):
    chance = Fraction(1)
    for k in way:
        chance *= at(told, k)
    return chance


def put(told, beat):
    """PUT at the beat, by going through all WAYS."""
    return sum((way_chance(told, way) for way in ways(beat)), Fraction(0))


# LIVES of all sorts: FULL and not, SHORT and not, with a step and without, the one whose row is ().
EMPTY = life("")
COIN = life("1/2 1/2")
GEOMETRIC = life("1/2", "1/2")
SAMPLES = (
    EMPTY,
    COIN,
    GEOMETRIC,
    life("1"),
    life("0 1"),
    life("0 0 1/3 0 0 2/3"),
    life("1/3"),
    life("1/2 1/4"),
    life("1/2 1/4 0 0"),
    life("0 0 0"),
    life("0", "1/2"),
    life("1/2 1/3 0", "3/4"),
    life("1/3", "1/2"),
    life("1/3", "2/3"),
    life("1/3 2/9 4/27", "2/3"),
    life("0 1/4 1/4", "1/2"),
    life("1/10 0 1/10", "8/9"),
    life("1/10 1/20", "8/9"),
    life("1/2 1/4 1/8 1/16", "1/2"),
    life("1/2 0 1/4", "1/2"),
    life("1/12 1/12 1/12 1/12 1/12 1/12 1/12 1/12 1/12 1/12 1/12 1/12"),
    life("1/999999937 0 3/100000007 1/7 0 0 1/123456789 2/999999929 0 1/3 0 1/987654321", "7/9"),
)

FULL = tuple(told for told in SAMPLES if lack(told) == 0) + (
    life("0 0 0 1"),
    life("0 1/2 0 1/2 0"),
    life("0 0 0 0 0 0 0 0 0 0 0 1"),
    life("1 0 0", "8/9"),
    life("0 1/2 1/2 0", "1/2"),
    life("1/9", "8/9"),
    life("0 1/5 1/10 7/20", "1/2"),
    life("1/3 1/9 2/9", "3/5"),
    life("999999936/999999937 1/999999937"),
    life("1/6 1/6 1/6 1/6 1/6 1/6"),
    life("0 0 1/2 0 0 1/4 0 0 0 0 0 1/4"),
    life("1/7 0 2/7 0 0 4/7 0 0 0 0 0 0"),
)
BOUNDED_FULL = tuple(told for told in FULL if told[1] == NOUGHT)


def middle(told):
    """The MEAN of a stretch of a FULL LIFE, a Fraction: each k times the CHANCE AT k, added."""
    row, step = told
    within = sum(k * at(told, k) for k in range(1, len(row) + 1))
    end, by = number(row[-1]), number(step)
    # The sums over j from 1 on of by^j and of j by^j are by / (1 - by) and by / (1 - by)^2.
    return within + end * (len(row) * by / (1 - by) + by / (1 - by) ** 2)


def beats_between(told):
    """The ROUND of a LIFE that has a CHANCE above nought, by trying all."""
    ends = [k for k in range(1, 41) if at(told, k) != 0]
    return max(many for many in range(1, 41) if all(k % many == 0 for k in ends))


def things():
    """Things of all kinds, none of them a paper or a WAY."""
    deep, wide, keyed = (), [], {}
    for turn in range(19):
        deep, wide, keyed = (deep,), [wide, turn], {"in": keyed}
    great = 10 ** 199 + 153
    return [None, True, False, 0, 1, -5, great, -great, "", "shape", "((1, 1), (1, 1), ((),), ())", [], {}, (None,),
            (True,), (False,), (0,), (-1,), ("1",), ([1],), ({},), ((),), ((1,),), deep, wide, keyed, (deep,) * 3,
            (deep,) * 4, (wide,) * 3, (wide,) * 4, (keyed,) * 3, (keyed,) * 4, [0] * 1990, ("",) * 1990,
            (None, None, None), (None, None, None, None), ("", "", ""), ("", "", "", ""), {0: (1, 1), 1: (1, 1)},
            (0, 0, 0), (0, 0, 0, 0), ((0, 0),) * 3, ((0, 0),) * 4, (great, (1, 0), (1, 0)), "a" * 2000]


def long_rows():
    """FULL LIVES with rows of up to sixty CHANCES, SHORT and not, with a step and without."""
    rising = [Fraction(k, 1830) for k in range(1, 61)]
    halves = [Fraction(1, 2 ** k) for k in range(1, 28)]
    great = [Fraction(1, 999999937 - 2 * k) for k in range(59)]
    told = [([Fraction(1, 60)] * 60, 0), (rising, 0), (rising[::-1], 0), ([Fraction(0)] * 59 + [Fraction(1)], 0),
            ([Fraction(1)] + [Fraction(0)] * 59, 0), (halves, Fraction(1, 2)), (great + [1 - sum(great)], 0),
            ([Fraction(0)] * 59 + [Fraction(1, 9)], Fraction(8, 9)), ([Fraction(1, 59)] * 59, 0),
            ([Fraction(1, 68)] * 60, Fraction(8, 9)), ([Fraction(1, 25)] * 25 + [Fraction(0)] * 10, Fraction(1, 3))]
    return [(tuple(pair(chance) for chance in row), pair(Fraction(step))) for row, step in told]


def kinds(*lines):
    """The KINDS of these lines ("1>0:1/2 3>1:1/2"), one for each kind."""
    return tuple(tuple(triple(word) for word in line.split()) for line in lines)


def triple(word):
    """The triple of a word "1>0:1/2"."""
    stretch, rest = word.split(">")
    follower, chance = rest.split(":")
    return (int(stretch), int(follower), pair(Fraction(chance)))


# KINDS of one to four kinds: FULL or some lacking, some (), some that follow themselves, some that are never led to.
ALL_KINDS = (
    kinds(""),
    kinds("1>0:1"),
    kinds("6>0:1"),
    kinds("1>0:1/2 2>0:1/4"),
    kinds("1>0:1/6 2>0:1/6 3>0:1/6 4>0:1/6 5>0:1/6 6>0:1/6"),
    kinds("", ""),
    kinds("1>1:1", "1>0:1"),
    kinds("2>0:1", "3>1:1"),
    kinds("1>0:1/2 1>1:1/2", "3>0:2/3 6>0:1/3"),
    kinds("1>0:1/2 1>1:1/4 2>1:1/8", "2>0:1/3 2>1:1/3 6>1:1/3"),
    kinds("3>0:1", "1>0:1/2 2>0:1/2"),
    kinds("2>1:1", "2>1:1"),
    kinds("1>1:1", "2>0:1", "1>0:1/2 4>1:1/2"),
    kinds("1>0:1", "1>0:1/3 1>1:1/3 1>2:1/3", "5>2:1"),
    kinds("1>1:1", "1>2:1", "1>0:1"),
    kinds("1>1:1/2 6>2:1/3", "", "1>0:1/999 2>0:998/999"),
    kinds("1>2:1", "2>2:1", "3>0:1/7 3>1:2/7 4>2:4/7"),
    kinds("1>1:1", "1>0:1", "2>3:1", "2>2:1"),
    kinds("1>1:1", "2>2:1", "3>3:1", "4>0:1"),
    kinds("1>0:1/4 1>1:1/4 1>2:1/4 1>3:1/4", "2>0:1/4 3>1:1/4 4>2:1/4 5>3:1/4", "6>0:1", "1>2:1/2 2>2:1/2"),
    kinds("1>1:1/2 1>2:1/2", "1>1:1", "1>2:1", "1>0:1/3 1>1:1/3 1>3:1/3"),
    kinds("1>3:5/7 6>3:2/7", "1>0:1/2 2>0:1/2", "1>1:1/3 2>0:2/3", "2>3:1/2 3>3:1/2"),
    kinds("1>3:5/7 6>3:1/7", "1>0:1/2", "", "2>3:1/2 3>2:1/2"),
)
FULL_KINDS = tuple(told for told in ALL_KINDS if all(sum(number(one[2]) for one in kind) == 1 for kind in told))


def plain_chain(told):
    """The CHAIN, lists of Fractions."""
    many = range(len(told))
    return [[sum((number(one[2]) for one in told[kind] if one[1] == follower), Fraction(0)) for follower in many]
            for kind in many]


def kind_ways(told, first, most):
    """Each row of what is PUT up to the beat most and its chance: pairs (beat, kind), the last one standing there."""
    def go(row, chance):
        beat, kind = row[-1]
        stays = 1 - sum((number(one[2]) for one in told[kind] if beat + one[0] <= most), Fraction(0))
        if stays:
            found.append((tuple(row), chance * stays))
        for stretch, follower, part in told[kind]:
            if beat + stretch <= most:
                go([*row, (beat + stretch, follower)], chance * number(part))

    found = []
    go([(0, first)], Fraction(1))
    return found
