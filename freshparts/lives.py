"""LIVES: the chances by which a part lasts 1, 2 and on beats, a row and a step behind it."""
from freshparts.ratios import NOUGHT, ONE, is_below, is_ratio, minus, over, ratio, times
from freshparts.rows import added, on_one_bottom


def is_chance(thing):
    """Tell of any thing whether it is a CHANCE: a RATIO from nought to one."""
    return is_ratio(thing) and 0 <= thing[0] <= thing[1]


def behind_row(life):
    """The CHANCES AT behind the row's end, added."""
    row, step = life
    if row == ():
        return NOUGHT
    return over(times(row[-1], step), minus(ONE, step))


def is_life(thing):
    """Tell of any thing whether it is a LIFE."""
    if not isinstance(thing, tuple) or len(thing) != 2:
        return False
    row, step = thing
    if not isinstance(row, tuple) or not all(is_chance(chance) for chance in row):
        return False
    if not is_chance(step) or not is_below(step, ONE):
        return False
    if row == ():
        return step == NOUGHT
    # The sum is not brought to lowest terms: of a long row with great bottoms that would take long.
    tops, bottom = on_one_bottom([*row, behind_row(thing)])
    return sum(tops) <= bottom


def chances_to(life, most):
    """The CHANCES AT 1 to most, a list."""
    row, step = life
    chances = list(row[:most])
    while len(chances) < most:
        chances.append(times(chances[-1], step) if chances else NOUGHT)
    return chances


def chance_at(life, k):
    """The chance that a part lasts k beats, k from 1 on."""
    return chances_to(life, k)[k - 1]


def lasting(life, k):
    """The chance that a part lasts more than k beats, k from 0 on."""
    return minus(ONE, added(chances_to(life, k)))


def lastings_to(life, most):
    """LASTING 0 to LASTING most, a list."""
    tops, bottom = on_one_bottom(chances_to(life, most))
    left = bottom
    told = [ONE]
    for top in tops:
        left -= top
        told.append(ratio(left, bottom))
    return told


def miss(life):
    """The chance that a part lasts for ever."""
    return minus(ONE, added([*life[0], behind_row(life)]))


def short(life):
    """The SHORT LIFE with the same CHANCES AT."""
    row, step = life
    if behind_row(life) == NOUGHT:
        return without_noughts(row)
    while len(row) > 1 and row[-1] == times(row[-2], step):
        row = row[:-1]
    return (row, step)


def without_noughts(row):
    """The LIFE of this row alone, without the noughts at its end."""
    end = len(row)
    while end > 0 and row[end - 1] == NOUGHT:
        end -= 1
    return (row[:end], NOUGHT)
