"""RATIOS: pairs (top, bottom) of whole numbers in lowest terms, bottom from 1 on."""
from freshparts.errors import NoRatio

NOUGHT = (0, 1)
ONE = (1, 1)


def is_whole(thing):
    """Tell whether a thing is a whole number; a truth is none."""
    return isinstance(thing, int) and not isinstance(thing, bool)


def common_divisor(one, other):
    """The greatest whole number that divides both; of nought and a number that number, without its sign."""
    great, small = abs(one), abs(other)
    while small != 0:
        great, small = small, great % small
    return great


def is_ratio(thing):
    """Tell of any thing whether it is a RATIO."""
    if not isinstance(thing, tuple) or len(thing) != 2:
        return False
    top, bottom = thing
    if not is_whole(top) or not is_whole(bottom):
        return False
    return bottom >= 1 and common_divisor(top, bottom) == 1


def ratio(top, bottom):
    """The RATIO of the top by the bottom, whatever their signs."""
    if bottom == 0:
        raise NoRatio()
    divisor = common_divisor(top, bottom)
    if bottom < 0:
        divisor = -divisor
    return (top // divisor, bottom // divisor)


def plus(one, other):
    """The sum."""
    return ratio(one[0] * other[1] + other[0] * one[1], one[1] * other[1])


def minus(one, other):
    """The one less the other."""
    return ratio(one[0] * other[1] - other[0] * one[1], one[1] * other[1])


def times(one, other):
    """The product."""
    return ratio(one[0] * other[0], one[1] * other[1])


def over(one, other):
    """The one by the other, which is not nought."""
    return ratio(one[0] * other[1], one[1] * other[0])


def is_below(one, other):
    """Tell whether the one is below the other."""
    return one[0] * other[1] < other[0] * one[1]
