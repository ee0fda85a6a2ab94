"""PUTS: the chances that one is put, beat by beat, and what else is reckoned anew behind each stretch."""
from freshparts.lives import chances_to
from freshparts.ratios import NOUGHT, ONE
from freshparts.rows import renewed


def puts(life, most):
    """PUT 0 to PUT most."""
    return tuple(renewed(chances_to(life, most), [ONE] + [NOUGHT] * most))


def puts_after(first, life, most):
    """At place n the chance that one is put at beat n behind beat 0, where the first part lasts by the first LIFE."""
    return tuple(renewed(chances_to(life, most), [NOUGHT, *chances_to(first, most)]))


def anew(life, told):
    """At place n the told one, and behind a stretch of k beats what stands at place n - k, by its chance."""
    return tuple(renewed(chances_to(life, len(told)), told))
