"""Checks EVEN PAPERS: PUTS from beat 0 on, and bounds that the last of them, and so all later ones, keep to."""
from freshparts.errors import NoPaper
from freshparts.ratios import is_below, is_ratio
from freshparts.rows import on_one_bottom

MOST_VALUES = 60


def lets_even(life, thing):
    """True where the thing is an EVEN PAPER of the FULL BOUNDED LIFE, else it is refused."""
    row = life[0]
    if not is_shaped(len(row), thing):
        raise NoPaper("shape", 0)
    values, low, high = thing
    wrong = first_wrong(row, values)
    if wrong is not None:
        raise NoPaper("value", wrong)
    for place in range(len(values) - len(row), len(values)):
        if is_below(values[place], low):
            raise NoPaper("low", place)
        if is_below(high, values[place]):
            raise NoPaper("high", place)
    return True


def is_shaped(least, thing):
    """Tell of any thing whether it is a tuple of least to sixty RATIOS, and two RATIOS."""
    if not isinstance(thing, tuple) or len(thing) != 3:
        return False
    values, low, high = thing
    if not isinstance(values, tuple) or not least <= len(values) <= MOST_VALUES:
        return False
    return is_ratio(low) and is_ratio(high) and all(is_ratio(value) for value in values)


def first_wrong(row, values):
    """The first place n at which values hasn't PUT n, told by the ones ahead of it; or None."""
    # All is compared as whole numbers on common bottoms: bringing each sum to lowest terms would take far longer.
    tops, bottom = on_one_bottom(values)
    chance_tops, chance_bottom = on_one_bottom(row)
    for place, top in enumerate(tops):
        reach = min(place, len(row))
        parts = [chance_tops[k - 1] * tops[place - k] for k in range(1, reach + 1)]
        told = sum(parts) if place > 0 else bottom * chance_bottom
        if top * chance_bottom != told:
            return place
    return None
