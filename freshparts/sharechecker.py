"""Checks SHARE PAPERS and APART PAPERS of FULL KINDS: the only weights there are, or two sets that are never left."""
from freshparts.errors import NoPaper
from freshparts.kinds import chain, is_number
from freshparts.ratios import is_ratio
from freshparts.rows import on_one_bottom

MOST_WAYS = 3


def lets_share(kinds, thing):
    """The word of the paper, "share" or "apart", where the thing is one of the KINDS, else it is refused."""
    many = len(kinds)
    if is_share_shaped(many, thing):
        check_share(kinds, thing[1], thing[2], thing[3])
        return "share"
    if is_apart_shaped(many, thing):
        check_apart(kinds, thing[1], thing[2])
        return "apart"
    raise NoPaper("shape", 0)


def is_share_shaped(many, thing):
    """Tell of any thing whether it has the shape of a SHARE PAPER of so many kinds."""
    if not isinstance(thing, tuple) or len(thing) != 4 or thing[0] != "share":
        return False
    word, home, weights, ways = thing
    if not is_number(home, many) or not isinstance(weights, tuple) or len(weights) != many:
        return False
    if not isinstance(ways, tuple) or len(ways) > MOST_WAYS:
        return False
    return all(is_ratio(weight) for weight in weights) and all(is_step(many, way) for way in ways)


def is_step(many, thing):
    """Tell of any thing whether it is a pair of two of so many kinds' numbers."""
    return isinstance(thing, tuple) and len(thing) == 2 and is_number(thing[0], many) and is_number(thing[1], many)


def is_apart_shaped(many, thing):
    """Tell of any thing whether it has the shape of an APART PAPER of so many kinds."""
    if not isinstance(thing, tuple) or len(thing) != 3 or thing[0] != "apart":
        return False
    return is_rising(many, thing[1]) and is_rising(many, thing[2])


def is_rising(many, thing):
    """Tell of any thing whether it is a rising tuple of unlike ones of so many kinds' numbers, not ()."""
    if not isinstance(thing, tuple) or thing == () or not all(is_number(kind, many) for kind in thing):
        return False
    return all(ahead < kind for ahead, kind in zip(thing, thing[1:]))


def check_share(kinds, home, weights, ways):
    """Refuse what has the shape of a SHARE PAPER and is none."""
    tops, bottom = on_one_bottom(weights)
    if sum(tops) != bottom:
        raise NoPaper("whole", 0)
    wrong = first_wrong_weight(chain(kinds), tops)
    if wrong is not None:
        raise NoPaper("weight", wrong)
    leads = led_to(kinds)
    reached = [home]
    for place, (kind, follower) in enumerate(ways):
        if kind in reached or follower not in leads[kind] or follower not in reached:
            raise NoPaper("way", place)
        reached.append(kind)
    for kind in range(len(kinds)):
        if kind not in reached:
            raise NoPaper("lacks", kind)


def first_wrong_weight(chances, tops):
    """The least kind whose weight isn't what the chain brings to it; None where there is none."""
    for kind, top in enumerate(tops):
        brought, bottom = on_one_bottom([row[kind] for row in chances])
        if sum([weight * chance for weight, chance in zip(tops, brought)]) != top * bottom:
            return kind
    return None


def check_apart(kinds, one, other):
    """Refuse what has the shape of an APART PAPER and is none."""
    for kind in one:
        if kind in other:
            raise NoPaper("both", kind)
    leads = led_to(kinds)
    for group in (one, other):
        for kind in group:
            if any(follower not in group for follower in leads[kind]):
                raise NoPaper("out", kind)


def led_to(kinds):
    """For each kind a list of the kinds that it LEADS to."""
    return [[follower for follower, chance in enumerate(row) if chance[0] > 0] for row in chain(kinds)]
