"""What is so for ever: what PUTS come to, AGES, LEFTS and STRETCHES, and the EVEN FIRST."""
from freshparts.lives import chances_to, lastings_to, short
from freshparts.means import mean, round_of
from freshparts.ratios import NOUGHT, ONE, over, times


def share(life):
    """What the PUTS of many beats come to in the mean."""
    stretch = mean(life)
    if stretch is None:
        return NOUGHT
    return over(ONE, stretch)


def round_share(life):
    """What PUT comes to at every ROUND-th beat, of a FULL LIFE."""
    return times((round_of(life), 1), share(life))


def ever_put(life, rest):
    """What PUT comes to at the beats that leave this rest by the ROUND, of a FULL LIFE."""
    return round_share(life) if rest == 0 else NOUGHT


def ever_ages(life, most):
    """At place a the chance of AGE a for ever, a from 0 to most - 1, of a FULL LIFE."""
    weight = share(life)
    return tuple([times(last, weight) for last in lastings_to(life, most - 1)])


def ever_lefts(life, most):
    """At place b - 1 the chance of LEFT b for ever, b from 1 to most, of a FULL LIFE."""
    # A part that lasts more than b - 1 beats has LEFT b just once and AGE b - 1 just once.
    return ever_ages(life, most)


def ever_stretches(life, most):
    """At place k - 1 the chance of STRETCH k for ever, k from 1 to most, of a FULL LIFE."""
    weight = share(life)
    return tuple([times((k, 1), times(chance, weight)) for k, chance in enumerate(chances_to(life, most), start=1)])


def ever_ages_by(life, rest, most):
    """The AGES for ever at the beats that leave this rest by the ROUND, of a BOUNDED FULL LIFE."""
    beats = round_of(life)
    weight = round_share(life)
    told = []
    for age, last in enumerate(lastings_to(life, most - 1)):
        told.append(times(last, weight) if age % beats == rest else NOUGHT)
    return tuple(told)


def even_first(life):
    """The EVEN FIRST of a FULL LIFE: with it as first LIFE one is put at each later beat with the very share."""
    row, step = life
    # From the row's last place on LASTING goes by the same step as the CHANCES AT: so the row is long enough.
    return short((ever_ages(life, len(row)), step))
