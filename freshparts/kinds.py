"""KINDS: several kinds of parts that follow one another by chances."""
from freshparts.lives import is_chance, without_noughts
from freshparts.ratios import NOUGHT, is_whole, plus
from freshparts.rows import on_one_bottom

MOST_KINDS = 4
MOST_STRETCH = 6


def is_kinds(thing):
    """Tell of any thing whether it is KINDS."""
    if not isinstance(thing, tuple) or not 1 <= len(thing) <= MOST_KINDS:
        return False
    return all(is_one_kind(kind, len(thing)) for kind in thing)


def is_one_kind(thing, many):
    """Tell of any thing whether it can be one of so many kinds."""
    if not isinstance(thing, tuple) or not all(is_triple(triple, many) for triple in thing):
        return False
    marks = [triple[:2] for triple in thing]
    if any(mark <= ahead for ahead, mark in zip(marks, marks[1:])):
        return False
    # Only those that rise are added: there are few of them, however many were handed in.
    tops, bottom = on_one_bottom([triple[2] for triple in thing])
    return sum(tops) <= bottom


def is_triple(thing, many):
    """Tell of any thing whether it is a stretch, one of so many kinds' numbers and a CHANCE above nought."""
    if not isinstance(thing, tuple) or len(thing) != 3:
        return False
    stretch, follower, chance = thing
    if not is_whole(stretch) or not 1 <= stretch <= MOST_STRETCH:
        return False
    return is_number(follower, many) and is_chance(chance) and chance != NOUGHT


def is_number(thing, many):
    """Tell of any thing whether it is the number of one of so many kinds."""
    return is_whole(thing) and 0 <= thing < many


def chain(kinds):
    """For each kind a tuple: for each kind the chance that it is the next one."""
    told = []
    for triples in kinds:
        row = [NOUGHT] * len(kinds)
        for stretch, follower, chance in triples:
            row[follower] = plus(row[follower], chance)
        told.append(tuple(row))
    return tuple(told)


def kind_life(kinds, kind):
    """The LIFE of how long a part of this kind lasts, whatever follows."""
    row = [NOUGHT] * max([triple[0] for triple in kinds[kind]], default=0)
    for stretch, follower, chance in kinds[kind]:
        row[stretch - 1] = plus(row[stretch - 1], chance)
    return without_noughts(tuple(row))


def lent(home, out):
    """The KINDS of two BOUNDED LIVES that follow one another by turns: kind 0 lasts by home, kind 1 by out."""
    return (followed(home, 1), followed(out, 0))


def followed(life, follower):
    """The kind that lasts by this LIFE and is always followed by the same."""
    return tuple([(k, follower, chance) for k, chance in enumerate(life[0], start=1) if chance != NOUGHT])
