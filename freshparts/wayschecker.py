"""Checks WAYS PAPERS: bounds of a PUT, shown by WAYS to the beat and by WAYS to parts that stand over it."""
from freshparts.errors import NoPaper
from freshparts.lives import lastings_to
from freshparts.ratios import ONE, is_below, is_ratio, minus, times
from freshparts.rows import added
from freshparts.ways import is_way, way_chance

MOST_WAYS = 200


def lets_ways(life, beat, thing):
    """True where the thing is a WAYS PAPER of the LIFE and the beat, else it is refused."""
    if not is_shaped(thing):
        raise NoPaper("shape", 0)
    low, high, hits, stands = thing
    wrong_hit = first_wrong(hits, beat, beat)
    if wrong_hit is not None:
        raise NoPaper("hit", wrong_hit)
    wrong_stand = first_wrong(stands, 0, beat - 1)
    if wrong_stand is not None:
        raise NoPaper("stand", wrong_stand)
    if is_below(hit_chance(life, hits), low):
        raise NoPaper("low", 0)
    if is_below(high, minus(ONE, stand_chance(life, beat, stands))):
        raise NoPaper("high", 0)
    return True


def is_shaped(thing):
    """Tell of any thing whether it is two RATIOS and two tuples of WAYS that are not too many."""
    if not isinstance(thing, tuple) or len(thing) != 4:
        return False
    low, high, hits, stands = thing
    return is_ratio(low) and is_ratio(high) and are_ways(hits) and are_ways(stands)


def are_ways(thing):
    """Tell of any thing whether it is a tuple of at most 200 WAYS."""
    return isinstance(thing, tuple) and len(thing) <= MOST_WAYS and all(is_way(way) for way in thing)


def first_wrong(ways, least, most):
    """The first place of a WAY that comes to no beat from least to most or doesn't rise; None where there is none."""
    for place, way in enumerate(ways):
        if not least <= sum(way) <= most:
            return place
        if place > 0 and way <= ways[place - 1]:
            return place
    return None


def hit_chance(life, hits):
    """The chances of these WAYS, added."""
    return added([way_chance(life, way) for way in hits])


def stand_chance(life, beat, stands):
    """The chance that by one of these WAYS a part stands over the beat."""
    lasts = lastings_to(life, beat)
    return added([times(way_chance(life, way), lasts[beat - sum(way)]) for way in stands])
