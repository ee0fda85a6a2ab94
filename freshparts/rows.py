"""Rows of RATIOS reckoned on one common bottom.

Reducing each step on the way to a sum costs far more than the sum itself: so the tops are reckoned as whole numbers
and each told RATIO is brought to lowest terms once.
"""
from freshparts.ratios import common_divisor, ratio


def on_one_bottom(told):
    """The pair of the tops on the least common bottom, a list, and that bottom."""
    common = 1
    for top, bottom in told:
        common = common // common_divisor(common, bottom) * bottom
    return ([top * (common // bottom) for top, bottom in told], common)


def added(told):
    """All of them, added; nought of none."""
    tops, bottom = on_one_bottom(told)
    return ratio(sum(tops), bottom)


def crossed(ones, others):
    """At place n the sum over k from 0 to n of the one at k times the other at n - k; a list."""
    tops, bottom = on_one_bottom(ones)
    other_tops, other_bottom = on_one_bottom(others)
    sums = [0] * (len(tops) + len(other_tops) - 1)
    for k, top in enumerate(tops):
        for j, other_top in enumerate(other_tops):
            sums[k + j] += top * other_top
    return [ratio(total, bottom * other_bottom) for total in sums]


def renewed(chances, told):
    """At place n the told one, and the sum over k from 1 to n of chances[k - 1] times what stands at place n - k.

    A list; chances has at least one less than told.
    """
    tops, bottom = on_one_bottom(chances)
    told_tops, told_bottom = on_one_bottom(told)
    # What stands at place n is kept as a whole number over told_bottom and n times bottom, multiplied.
    powers = [1]
    sums = []
    for n, told_top in enumerate(told_tops):
        parts = [tops[k - 1] * powers[k - 1] * sums[n - k] for k in range(1, n + 1)]
        sums.append(told_top * powers[n] + sum(parts))
        powers.append(powers[n] * bottom)
    return [ratio(total, told_bottom * power) for total, power in zip(sums, powers)]
