"""Heads: one whole number within each of several spans, all adding up to a total.

The mores tell a whole row by the numbers at its first places, its heads. What asks for these alone stands here,
so that it serves wherever rows are told by heads.
"""


def least_heads(spans, total):
    heads = []
    left = total
    room = sum([high for low, high in spans])
    for low, high in spans:
        room -= high
        # The spans behind take room at most: what is beyond that falls to this head.
        head = max(low, left - room)
        heads.append(head)
        left -= head
    return heads


def head_ranges(spans, total):
    over = total - sum([low for low, high in spans])
    under = sum([high for low, high in spans]) - total
    # All heads together are so far above their lows and beneath their highs: no single one can be further.
    return [(max(low, high - under), min(high, low + over)) for low, high in spans]


# In how many ways a number from 0 on is a sum of so many numbers from 0 on, their order counted.
def part_ways(number, parts):
    ways = 1
    for step in range(1, parts):
        ways = ways * (number + step) // step
    return ways


def heads_many(spans, total):
    if any([low > high for low, high in spans]):
        return 0
    left = total - sum([low for low, high in spans])
    if left < 0:
        return 0
    # Counted first as if no span had an upper end: then ways past one end are taken off, ways past two put back ..
    terms = [(1, left)]
    for low, high in spans:
        width = high - low + 1
        terms = terms + [(-sign, rest - width) for sign, rest in terms if rest >= width]
    return sum([sign * part_ways(rest, len(spans)) for sign, rest in terms])


# How many heads there are with a lesser first number than this one.
def heads_below(spans, total, first):
    return heads_many([(spans[0][0], first - 1)] + spans[1:], total)


def first_head(spans, total, number):
    low = spans[0][0]
    high = spans[0][1]
    # Halving, as spans may be far too wide to be walked.
    while low < high:
        middle = (low + high + 1) // 2
        if heads_below(spans, total, middle) > number:
            high = middle - 1
        else:
            low = middle
    return low


def heads_at(spans, total, number):
    heads = []
    left = total
    ahead = number
    for j in range(len(spans)):
        head = first_head(spans[j:], left, ahead)
        ahead -= heads_below(spans[j:], left, head)
        heads.append(head)
        left -= head
    return heads


def heads_number(spans, total, heads):
    left = total
    number = 0
    for j in range(len(spans)):
        number += heads_below(spans[j:], left, heads[j])
        left -= heads[j]
    return number
