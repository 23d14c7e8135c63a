"""The judge of what is told of a ring: it refuses nothing."""

from tellsum.heads import lesser_rows
from tellsum.linejudge import paper_right
from tellsum.rings import ring_highs, ring_lows, ring_total, round_closes, rounds_many, sums_paper
from tellsum.tellings import ring_holds


def least_right(ring, row):
    if not ring_holds(ring, row):
        return False
    return not any([ring_holds(ring, lesser) for lesser in lesser_rows(row, rounds_many(ring))])


def round_right(ring, j):
    return 0 <= j < rounds_many(ring) and not round_closes(ring, j)


def ring_right(ring, told):
    word = told[0]
    if word == "row":
        return least_right(ring, told[1])
    if word == "round":
        return round_right(ring, told[1])
    of_sums = sums_paper(ring)
    if word == "part":
        return of_sums == ("part", told[1])
    if of_sums is not None:
        return False
    return paper_right(ring_lows(ring), ring_highs(ring), rounds_many(ring), ring_total(ring), told)
