"""The MEAN of a stretch, the MEAN of its SQUARE, and the ROUND of a LIFE."""
from freshparts.lives import behind_row, miss
from freshparts.ratios import NOUGHT, ONE, common_divisor, minus, over, plus, times
from freshparts.rows import added


def mean(life):
    """The MEAN of a stretch; None where the LIFE isn't FULL."""
    if miss(life) != NOUGHT:
        return None
    row = life[0]
    told = [times((k, 1), chance) for k, chance in enumerate(row, start=1)]
    zeroth, first = moments_behind(life)[:2]
    return added([*told, times((len(row), 1), zeroth), first])


def mean_square(life):
    """The MEAN of a stretch's SQUARE; None where the LIFE isn't FULL."""
    if miss(life) != NOUGHT:
        return None
    row = life[0]
    many = len(row)
    told = [times((k * k, 1), chance) for k, chance in enumerate(row, start=1)]
    zeroth, first, second = moments_behind(life)
    return added([*told, times((many * many, 1), zeroth), times((2 * many, 1), first), second])


def moments_behind(life):
    """Three sums over j from 1 on of the CHANCE AT j places behind the row's end: as it is, times j, times j * j.

    Of powers of a step s they are s / (1 - s), s / (1 - s)^2 and s (1 + s) / (1 - s)^3.
    """
    step = life[1]
    gap = minus(ONE, step)
    zeroth = behind_row(life)
    first = over(zeroth, gap)
    second = over(times(first, plus(ONE, step)), gap)
    return (zeroth, first, second)


def round_of(life):
    """The greatest whole number that divides each k whose CHANCE AT k isn't nought; 0 where there is none."""
    row = life[0]
    divisor = 0
    for k, chance in enumerate(row, start=1):
        if chance != NOUGHT:
            divisor = common_divisor(divisor, k)
    # All behind a row's end are above nought or none is: the first of them and the row's last one stand side by side.
    if behind_row(life) != NOUGHT:
        divisor = common_divisor(divisor, len(row) + 1)
    return divisor
