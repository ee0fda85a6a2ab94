"""WAYS: the stretches of the first parts, one behind the other."""
from freshparts.lives import chances_to
from freshparts.ratios import NOUGHT, is_whole, ratio


def is_way(thing):
    """Tell of any thing whether it is a WAY."""
    return isinstance(thing, tuple) and all(is_whole(stretch) and stretch >= 1 for stretch in thing)


def way_chance(life, way):
    """The chance of a WAY: the CHANCES AT its numbers, multiplied."""
    chances = chances_to(life, max(way, default=0))
    top, bottom = 1, 1
    for stretch in way:
        chance = chances[stretch - 1]
        top *= chance[0]
        bottom *= chance[1]
    return ratio(top, bottom)


def all_ways(life, beat):
    """All WAYS that come to the beat and whose chance isn't nought, a rising list."""
    chances = chances_to(life, beat)
    # By their first stretches, each with the rising ones to what is left of the beat: so each list rises by itself.
    found = [[()]]
    for end in range(1, beat + 1):
        firsts = [k for k in range(1, end + 1) if chances[k - 1] != NOUGHT]
        reached = [(k, *rest) for k in firsts for rest in found[end - k]]
        found.append(reached)
    return found[beat]
