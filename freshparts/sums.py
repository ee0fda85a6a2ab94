"""Writes SUM PAPERS."""
from freshparts.lives import lastings_to
from freshparts.ratios import ONE, minus, over
from freshparts.rows import added


def sum_paper(life, many):
    """The SUM PAPER of a FULL LIFE and many, from how long its row is on, with the least missing."""
    lasts = lastings_to(life, many)
    missing = over(lasts[many], minus(ONE, life[1]))
    return (many, added(lasts[:many]), missing)
