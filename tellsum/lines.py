"""Lines: the mores of places, the spans of rests, and the least row that fits or a paper that none does."""

from tellsum.errors import NoFit
from tellsum.heads import least_heads


def is_place(line, number):
    return 0 <= number < len(line[2])


def mores_of(line):
    sums = line[1]
    mores = [0] * line[0]
    for i in range(len(sums) - 1):
        mores.append(mores[i] + sums[i + 1] - sums[i])
    return mores


def less_mores(bounds, mores):
    return [bound - more for bound, more in zip(bounds, mores)]


# What each place's least number asks, at least, of the first place of its rest.
def low_asks(line):
    return less_mores(line[2], mores_of(line))


# What each place's greatest number lets the first place of its rest have at most.
def high_asks(line):
    return less_mores(line[3], mores_of(line))


def rest_spans(line):
    k = line[0]
    lows = low_asks(line)
    highs = high_asks(line)
    return [(max(lows[j::k]), min(highs[j::k])) for j in range(k)]


# The j-th place is the one of rest j that asks what the rest's end is.
def places_asking(asks, ends):
    k = len(ends)
    return tuple([j + k * asks[j::k].index(ends[j]) for j in range(k)])


def row_of(line, heads):
    k = line[0]
    return tuple([heads[place % k] + more for place, more in enumerate(mores_of(line))])


# Rows with the same sums differ by such exchanges between rests alone.
def exchanged_row(row, k, giver, taker):
    shifts = [0] * k
    shifts[giver] = -1
    shifts[taker] = 1
    return tuple([number + shifts[place % k] for place, number in enumerate(row)])


def fitted_line(line):
    total = line[1][0]
    spans = rest_spans(line)
    lows = [low for low, high in spans]
    highs = [high for low, high in spans]
    low_places = places_asking(low_asks(line), lows)
    high_places = places_asking(high_asks(line), highs)
    for j in range(len(spans)):
        if lows[j] > highs[j]:
            return ("clash", low_places[j], high_places[j])
    if sum(lows) > total:
        return ("low", low_places)
    if sum(highs) < total:
        return ("high", high_places)
    return ("row", row_of(line, least_heads(spans, total)))


def fitting_spans(line):
    if fitted_line(line)[0] != "row":
        raise NoFit("no row fits this line")
    return rest_spans(line)
