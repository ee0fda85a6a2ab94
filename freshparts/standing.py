"""What stands at a beat: how old it is, how long it still lasts, and how long in all."""
from freshparts.lives import chance_at, chances_to, lastings_to, miss
from freshparts.means import mean
from freshparts.puts import puts
from freshparts.ratios import NOUGHT, minus, ratio, times
from freshparts.rows import added, on_one_bottom


def ages(life, beat):
    """At place a the chance that what stands at the beat has AGE a, a from 0 to beat."""
    backwards = puts(life, beat)[::-1]
    return tuple([times(put, last) for put, last in zip(backwards, lastings_to(life, beat))])


def lefts(life, beat, most):
    """At place b - 1 the chance that what stands at the beat has LEFT b, b from 1 to most."""
    tops, bottom = on_one_bottom(puts(life, beat))
    chance_tops, chance_bottom = on_one_bottom(chances_to(life, beat + most))
    told = []
    for left in range(1, most + 1):
        parts = [tops[beat - age] * chance_tops[age + left - 1] for age in range(beat + 1)]
        told.append(ratio(sum(parts), bottom * chance_bottom))
    return tuple(told)


def stretches(life, beat, most):
    """At place k - 1 the chance that what stands at the beat has STRETCH k, k from 1 to most."""
    tops, bottom = on_one_bottom(puts(life, beat))
    told = []
    for k, chance in enumerate(chances_to(life, most), start=1):
        # One that lasts k beats stands there if it was put at one of the last k beats, none ahead of beat 0.
        since = max(0, beat - k + 1)
        told.append(times(chance, ratio(sum(tops[since:]), bottom)))
    return tuple(told)


def stays(life, beat):
    """The chance that what stands at the beat lasts for ever."""
    return times(miss(life), added(puts(life, beat)))


def age_and_left(life, beat, age, left):
    """The chance that what stands at the beat has this AGE and this LEFT."""
    if age > beat:
        return NOUGHT
    put = puts(life, beat - age)[beat - age]
    return times(put, chance_at(life, age + left))


def mean_left(life, beat):
    """The mean of what is LEFT at the beat; None where the LIFE isn't FULL."""
    stretch = mean(life)
    if stretch is None:
        return None
    # The next one is put, in the mean, behind as many mean stretches as were put, the one at beat 0 too.
    return minus(times(stretch, added(puts(life, beat))), (beat, 1))
