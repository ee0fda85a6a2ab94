"""GAINS: what stretches gain by their PRICES, by a beat, begun by a beat, and a beat for ever."""
from freshparts.ever import share
from freshparts.puts import puts
from freshparts.ratios import NOUGHT, plus, ratio, times
from freshparts.rows import added, crossed, on_one_bottom


def gains(life, prices, keep, most):
    """At place n the mean gain of all stretches that ended at the beats 1 to n, and keep n times."""
    ended = crossed(puts(life, most), [NOUGHT, *priced(life, prices)])
    return running([NOUGHT, *[plus(gain, keep) for gain in ended[1:most + 1]]])


def begun(life, prices, most):
    """At place n the mean gain of all stretches, each in all, that began at the beats 0 to n."""
    price = added(priced(life, prices))
    return running([times(price, put) for put in puts(life, most)])


def gain_a_beat(life, prices, keep):
    """The gain a beat for ever."""
    return plus(times(added(priced(life, prices)), share(life)), keep)


def priced(life, prices):
    """Each CHANCE of the row times the price beside it, a list."""
    return [times(chance, price) for chance, price in zip(life[0], prices)]


def running(told):
    """At place n those at the places 0 to n, added."""
    tops, bottom = on_one_bottom(told)
    total = 0
    sums = []
    for top in tops:
        total += top
        sums.append(ratio(total, bottom))
    return tuple(sums)
