"""Rings: the least row that fits or a paper that none does, and all rows that fit counted and numbered."""

from tellsum.errors import NoFit, NoNumber
from tellsum.heads import (
    head_spans, heads_at, heads_many, heads_number, heads_paper, least_heads, less_mores, row_by_heads)
from tellsum.tellings import ring_holds


def rounds_many(ring):
    k = ring[0]
    many = len(ring[1])
    return max([divisor for divisor in range(1, k + 1) if k % divisor == 0 and many % divisor == 0])


# Pairs of a place and what has been added up on the way to it, from place j on till one is back there.
def round_walk(ring, j):
    sums = ring[1]
    many = len(sums)
    walk = []
    place = j
    more = 0
    for step in range(many // rounds_many(ring)):
        walk.append((place, more))
        more += sums[(place + 1) % many] - sums[place]
        place = (place + ring[0]) % many
    walk.append((place, more))
    return walk


def round_closes(ring, j):
    return round_walk(ring, j)[-1][1] == 0


def ring_mores(ring):
    mores = [0] * len(ring[1])
    for j in range(rounds_many(ring)):
        for place, more in round_walk(ring, j)[:-1]:
            mores[place] = more
    return mores


# How many of the first k places each round has.
def head_times(ring):
    return ring[0] // rounds_many(ring)


# What the heads add up to, each taken as often as its round has a place among the first k ones.
def heads_sum(ring):
    return ring[1][0] - sum(ring_mores(ring)[:ring[0]])


def ring_total(ring):
    return heads_sum(ring) // head_times(ring)


# By which the sums alone let no row fit, or None where some row has them.
def sums_paper(ring):
    for j in range(rounds_many(ring)):
        if not round_closes(ring, j):
            return ("round", j)
    left = heads_sum(ring) % head_times(ring)
    if left != 0:
        return ("part", left)
    return None


# What each place's least number asks, at least, of the first place of its round.
def ring_lows(ring):
    return less_mores(ring[2], ring_mores(ring))


# What each place's greatest number lets the first place of its round have at most.
def ring_highs(ring):
    return less_mores(ring[3], ring_mores(ring))


def round_spans(ring):
    return head_spans(ring_lows(ring), ring_highs(ring), rounds_many(ring))


def fitted_ring(ring):
    paper = sums_paper(ring)
    if paper is None:
        paper = heads_paper(ring_lows(ring), ring_highs(ring), rounds_many(ring), ring_total(ring))
    if paper is not None:
        return paper
    return ("row", row_by_heads(least_heads(round_spans(ring), ring_total(ring)), ring_mores(ring)))


def ring_many(ring):
    if sums_paper(ring) is not None:
        return 0
    return heads_many(round_spans(ring), ring_total(ring))


def ring_at(ring, number):
    if not 0 <= number < ring_many(ring):
        raise NoNumber("no row that fits this ring has this number")
    return row_by_heads(heads_at(round_spans(ring), ring_total(ring), number), ring_mores(ring))


def ring_number(ring, row):
    if not ring_holds(ring, row):
        raise NoFit("this row doesn't fit the ring")
    return heads_number(round_spans(ring), ring_total(ring), row)
