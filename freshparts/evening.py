"""Writes EVEN PAPERS."""
from freshparts.errors import NoBeat
from freshparts.puts import puts
from freshparts.ratios import is_below


def even_paper(life, most):
    """The EVEN PAPER of a FULL BOUNDED LIFE with PUT 0 to PUT most and the closest bounds."""
    early = most + 1 - len(life[0])
    if early < 0:
        raise NoBeat(most)
    values = puts(life, most)
    low, high = bounds(values[early:])
    return (values, low, high)


def bounds(told):
    """The least and the greatest of these RATIOS, a pair."""
    low = high = told[0]
    for one in told:
        if is_below(one, low):
            low = one
        if is_below(high, one):
            high = one
    return (low, high)
