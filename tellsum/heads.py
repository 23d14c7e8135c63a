"""Heads: one whole number within each of several spans, all adding up to a total.

The mores tell a whole row by the numbers at its first places, its heads. What asks for these alone stands here,
so that it serves wherever rows are told by heads: places go by turns to the rests of a line, to the rounds of a ring.
"""


# What the bounds of each place ask of the head that its number is more than.
def less_mores(bounds, mores):
    return [bound - more for bound, more in zip(bounds, mores)]


def head_spans(lows, highs, many):
    return [(max(lows[j::many]), min(highs[j::many])) for j in range(many)]


def row_by_heads(heads, mores):
    many = len(heads)
    return tuple([heads[place % many] + more for place, more in enumerate(mores)])


# The j-th place is the one for head j that asks what the head's end is.
def places_asking(asks, ends):
    many = len(ends)
    return tuple([j + many * asks[j::many].index(ends[j]) for j in range(many)])


# By which places there are no heads that add up to the total, or None where there are.
def heads_paper(lows, highs, many, total):
    spans = head_spans(lows, highs, many)
    low_ends = [low for low, high in spans]
    high_ends = [high for low, high in spans]
    low_places = places_asking(lows, low_ends)
    high_places = places_asking(highs, high_ends)
    for j in range(many):
        if low_ends[j] > high_ends[j]:
            return ("clash", low_places[j], high_places[j])
    if sum(low_ends) > total:
        return ("low", low_places)
    if sum(high_ends) < total:
        return ("high", high_places)
    return None


# Rows with the same sums differ by such exchanges between heads alone.
def exchanged_row(row, many, giver, taker):
    shifts = [0] * many
    shifts[giver] = -1
    shifts[taker] = 1
    return tuple([number + shifts[place % many] for place, number in enumerate(row)])


# Where any lesser row fits, one of these does: 1 goes from one head to a later one.
def lesser_rows(row, many):
    rows = []
    for giver in range(many):
        for taker in range(giver + 1, many):
            rows.append(exchanged_row(row, many, giver, taker))
    return rows


def least_heads(spans, total):
    heads = []
    left = total
    room = sum([high for low, high in spans])
    for low, high in spans:
        room -= high
        # The spans behind take room at most: what is beyond that falls to this head.
        head = max(low, left - room)
        heads.append(head)
        left -= head
    return heads


def head_ranges(spans, total):
    over = total - sum([low for low, high in spans])
    under = sum([high for low, high in spans]) - total
    # All heads together are so far above their lows and beneath their highs: no single one can be further.
    return [(max(low, high - under), min(high, low + over)) for low, high in spans]


# In how many ways a number from 0 on is a sum of so many numbers from 0 on, their order counted.
def part_ways(number, parts):
    ways = 1
    for step in range(1, parts):
        ways = ways * (number + step) // step
    return ways


def heads_many(spans, total):
    if any([low > high for low, high in spans]):
        return 0
    left = total - sum([low for low, high in spans])
    if left < 0:
        return 0
    # Counted first as if no span had an upper end: then ways past one end are taken off, ways past two put back ..
    terms = [(1, left)]
    for low, high in spans:
        width = high - low + 1
        terms = terms + [(-sign, rest - width) for sign, rest in terms if rest >= width]
    return sum([sign * part_ways(rest, len(spans)) for sign, rest in terms])


# How many heads there are with a lesser first number than this one.
def heads_below(spans, total, first):
    return heads_many([(spans[0][0], first - 1)] + spans[1:], total)


def first_head(spans, total, number):
    low = spans[0][0]
    high = spans[0][1]
    # Halving, as spans may be far too wide to be walked.
    while low < high:
        middle = (low + high + 1) // 2
        if heads_below(spans, total, middle) > number:
            high = middle - 1
        else:
            low = middle
    return low


def heads_at(spans, total, number):
    heads = []
    left = total
    ahead = number
    for j in range(len(spans)):
        head = first_head(spans[j:], left, ahead)
        ahead -= heads_below(spans[j:], left, head)
        heads.append(head)
        left -= head
    return heads


def heads_number(spans, total, heads):
    left = total
    number = 0
    for j in range(len(spans)):
        number += heads_below(spans[j:], left, heads[j])
        left -= heads[j]
    return number
