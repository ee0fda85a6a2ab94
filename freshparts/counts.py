"""How many are put: by a beat, for ever, and of several LIVES at one beat."""
from freshparts.lives import chances_to, miss
from freshparts.puts import puts
from freshparts.ratios import NOUGHT, ONE, minus, over, ratio
from freshparts.rows import added, crossed, on_one_bottom


def counts(life, beat):
    """At place j the chance that just j are put at the beats 1 to beat."""
    tops, bottom = on_one_bottom(chances_to(life, beat))
    # All is kept whole: ends[n], the j-th one is put at beat n, over bottom j times; stays[k], LASTING k, over bottom.
    stays = [bottom - sum(tops[:k]) for k in range(beat + 1)]
    ends = [1] + [0] * beat
    scale = bottom
    told = []
    for j in range(beat + 1):
        told.append(ratio(sum([ends[n] * stays[beat - n] for n in range(beat + 1)]), scale))
        ends = [sum([tops[k - 1] * ends[n - k] for k in range(1, n + 1)]) for n in range(beat + 1)]
        scale *= bottom
    return tuple(told)


def many_by(life, beat):
    """How many are put at the beats 1 to beat, in the mean."""
    return added(puts(life, beat)[1:])


def in_all(life):
    """How many are put behind beat 0 for ever, in the mean; None of a FULL LIFE."""
    lack = miss(life)
    if lack == NOUGHT:
        return None
    return over(minus(ONE, lack), lack)


def together(lives, beat):
    """At place j the chance that just j of these LIVES, each by itself, have one put at that beat."""
    told = [ONE]
    for life in lives:
        chance = puts(life, beat)[beat]
        told = crossed(told, [minus(ONE, chance), chance])
    return tuple(told)
