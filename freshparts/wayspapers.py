"""Writes whole WAYS PAPERS."""
from freshparts.lives import lastings_to
from freshparts.puts import puts
from freshparts.ratios import NOUGHT
from freshparts.ways import all_ways


def ways_paper(life, beat):
    """The WAYS PAPER with all WAYS that have a chance: low and high are PUT at the beat."""
    chance = puts(life, beat)[beat]
    return (chance, chance, tuple(all_ways(life, beat)), ways_over(life, beat))


def ways_over(life, beat):
    """All WAYS by which, with a chance, a part stands over the beat, a rising tuple."""
    lasts = lastings_to(life, beat)
    found = []
    for end in range(beat):
        if lasts[beat - end] != NOUGHT:
            found.extend(all_ways(life, end))
    return tuple(sorted(found))
