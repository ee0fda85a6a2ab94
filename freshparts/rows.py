"""Rows of RATIOS reckoned on one common bottom.

Reducing each step on the way to a sum costs far more than the sum itself: so the tops are reckoned as whole numbers
and each told RATIO is brought to lowest terms once.
"""
from freshparts.ratios import common_divisor, ratio


def on_one_bottom(told):
    """The pair of the tops on the least common bottom, a list, and that bottom."""
    common = 1
    for top, bottom in told:
        common = common // common_divisor(common, bottom) * bottom
    return ([top * (common // bottom) for top, bottom in told], common)


def added(told):
    """All of them, added; nought of none."""
    tops, bottom = on_one_bottom(told)
    return ratio(sum(tops), bottom)
