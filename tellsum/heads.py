"""Heads: one whole number within each of several spans, all adding up to a total.

The mores tell a whole row by the numbers at its first places, its heads. What asks for these alone stands here,
so that it serves wherever rows are told by heads.
"""


def least_heads(spans, total):
    heads = []
    left = total
    room = sum([high for low, high in spans])
    for low, high in spans:
        room -= high
        # The spans behind take room at most: what is beyond that falls to this head.
        head = max(low, left - room)
        heads.append(head)
        left -= head
    return heads
