"""Checks SUM PAPERS: bounds of a MEAN, by LASTING added up to a beat and by what the step leaves behind it."""
from freshparts.errors import NoPaper
from freshparts.lives import lastings_to
from freshparts.ratios import ONE, is_below, is_ratio, is_whole, minus, times
from freshparts.rows import added

MOST_MANY = 60


def lets_sum(life, thing):
    """True where the thing is a SUM PAPER of the FULL LIFE, else it is refused."""
    if not is_shaped(thing):
        raise NoPaper("shape", 0)
    many, total, missing = thing
    row, step = life
    if many < len(row):
        raise NoPaper("many", 0)
    lasts = lastings_to(life, many)
    if added(lasts[:many]) != total:
        raise NoPaper("sum", 0)
    if is_below(times(missing, minus(ONE, step)), lasts[many]):
        raise NoPaper("missing", 0)
    return True


def is_shaped(thing):
    """Tell of any thing whether it is a whole number from 0 to 60 and two RATIOS."""
    if not isinstance(thing, tuple) or len(thing) != 3:
        return False
    many, total, missing = thing
    return is_whole(many) and 0 <= many <= MOST_MANY and is_ratio(total) and is_ratio(missing)
