"""LIVES made of others, all told SHORT."""
from freshparts.errors import NoAge
from freshparts.lives import chance_at, chances_to, lasting, short
from freshparts.ratios import NOUGHT, over, times
from freshparts.rows import added, crossed


def behind(one, other):
    """Of one part and then one of the other, both BOUNDED."""
    return short(((NOUGHT, *crossed(one[0], other[0])), NOUGHT))


def mixed_by(lives, weights):
    """Of a part of each of the BOUNDED lives, with the weight beside it."""
    most = max([len(life[0]) for life in lives])
    rows = [chances_to(life, most) for life in lives]
    told = []
    for place in range(most):
        told.append(added([times(weight, row[place]) for weight, row in zip(weights, rows)]))
    return short((tuple(told), NOUGHT))


def cut_at(life, most):
    """Of a part that ends at most beats behind its put, if not ahead."""
    return short(((*chances_to(life, most - 1), lasting(life, most - 1)), NOUGHT))


def folded(life, many):
    """Of a BOUNDED one, each beat drawn out to many."""
    told = []
    for chance in life[0]:
        told.extend([NOUGHT] * (many - 1))
        told.append(chance)
    return short((tuple(told), NOUGHT))


def later(life, by):
    """Of a part that lasts some beats more."""
    row, step = life
    return short(((NOUGHT,) * by + row, step))


def left_of(life, age):
    """Of what is left of a part that has come to this age."""
    row, step = life
    weight = lasting(life, age)
    if weight == NOUGHT:
        raise NoAge(age)
    # Behind the row's end one CHANCE AT is enough: the step tells all behind it.
    rest = row[age:] if age < len(row) else (chance_at(life, age + 1),)
    return short((tuple([over(chance, weight) for chance in rest]), step))
