"""THINNED: each part that is put behind beat 0 is kept with a share, by itself."""
from freshparts.lives import chances_to
from freshparts.ratios import NOUGHT, ONE, minus, times
from freshparts.rows import renewed


def thinned(life, share, most):
    """At place k - 1 the chance that the first kept one behind beat 0 is put at beat k, k from 1 to most."""
    chances = chances_to(life, most)
    kept = [times(share, chance) for chance in chances]
    lost = [times(minus(ONE, share), chance) for chance in chances]
    return tuple(renewed(lost, [NOUGHT, *kept])[1:])
