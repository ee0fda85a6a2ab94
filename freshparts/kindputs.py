"""What is PUT and what STANDS of several kinds, from a first part of some kind on."""
from freshparts.kinds import kind_life
from freshparts.lives import lastings_to
from freshparts.ratios import ratio, times
from freshparts.rows import added, on_one_bottom


def kind_puts(kinds, first, most):
    """For each beat from 0 to most a tuple: at place i the chance that a part of kind i is put there."""
    return tuple([tuple(row) for row in put_rows(kinds, first, most, None)])


def kind_stands(kinds, first, beat):
    """At place i the chance that a part of kind i stands at the beat."""
    rows = put_rows(kinds, first, beat, None)
    told = []
    for kind in range(len(kinds)):
        lasts = lastings_to(kind_life(kinds, kind), beat)
        told.append(added([times(row[kind], last) for row, last in zip(rows, lasts[::-1])]))
    return tuple(told)


def first_of(kinds, first, other, most):
    """At place n - 1 the chance that the first one of other behind beat 0 is put at beat n, n from 1 to most."""
    return tuple([row[other] for row in put_rows(kinds, first, most, other)[1:]])


def put_rows(kinds, first, most, shut):
    """For each beat from 0 to most a list: the chances that a part of each kind is put there.

    Behind a part of the kind shut that is put behind beat 0 nothing is followed further; shut may be None.
    """
    moves = [(kind, *triple) for kind, triples in enumerate(kinds) for triple in triples]
    tops, bottom = on_one_bottom([move[3] for move in moves])
    # What stands in a beat's row is kept as whole numbers over as many bottoms as there are beats, multiplied.
    powers = [1]
    rows = [[1 if kind == first else 0 for kind in range(len(kinds))]]
    for n in range(1, most + 1):
        row = [0] * len(kinds)
        for (kind, stretch, follower, chance), top in zip(moves, tops):
            since = n - stretch
            if since == 0 or (since > 0 and kind != shut):
                row[follower] += rows[since][kind] * top * powers[stretch - 1]
        rows.append(row)
        powers.append(powers[-1] * bottom)
    return [[ratio(total, power) for total in row] for row, power in zip(rows, powers)]
