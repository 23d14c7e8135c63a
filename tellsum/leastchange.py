"""The least change in all: a row within a line's bounds whose sums are as near as can be, all added, and signs for it.

The cuts of a line are the ends of its places, from 0 on: cut i lies ahead of place i. What a row has up to each cut
tells its places and its sums as differences, so bounds of both tie cuts.
"""

from tellsum.floors import greatest_shifts
from tellsum.sums import line_sums
from tellsum.tellings import row_within

SIGNS = (-1, 0, 1)


def changes_of(line, row):
    return sum([abs(total - told) for total, told in zip(line_sums(row, line[0]), line[1])])


def place_counts(line, signs):
    k = line[0]
    return [sum(signs[max(0, place - k + 1):place + 1]) for place in range(len(line[2]))]


# The most that a place within its bounds can add to sums that count so.
def place_most(line, place, count):
    return count * (line[3][place] if count > 0 else line[2][place])


def signs_worth(line, signs):
    worth = sum([sign * total for sign, total in zip(signs, line[1])])
    return worth - sum([place_most(line, place, count) for place, count in enumerate(place_counts(line, signs))])


# Of signs up to a place: by their last k - 1 ones pairs of the greatest worth and all the signs that have it, as no
# place behind asks for earlier ones. Told are those of one sign more; where no sum begins any more it is 0.
def grown_worths(line, place, worths):
    choices = [(sign, sign * line[1][place]) for sign in SIGNS] if place < len(line[1]) else [(0, 0)]
    grown = {}
    for recent in worths:
        for sign, added in choices:
            here = recent + (sign,)
            worth = worths[recent][0] + added - place_most(line, place, sum(here))
            if here[1:] not in grown or grown[here[1:]][0] < worth:
                grown[here[1:]] = (worth, worths[recent][1] + (sign,))
    return grown


def worthiest_signs(line):
    ends = (0,) * (line[0] - 1)
    worths = {ends: (0, ())}
    for place in range(len(line[2])):
        worths = grown_worths(line, place, worths)
    return worths[ends][1][:len(line[1])]


# Triples of a cut, another one, and how much more a row may have up to the first than up to the other.
def place_ties(least, greatest):
    ties = []
    for place, low in enumerate(least):
        ties.append((place + 1, place, greatest[place]))
        ties.append((place, place + 1, -low))
    return ties


def row_by_cuts(ties, many):
    upto = greatest_shifts(ties, many + 1, 0)[0]
    return tuple([upto[place + 1] - upto[place] for place in range(many)])


# A row that changes no more than the signs are worth: where they count a place, it has what they count; where a sign
# is 1 the sum is not passed, where it is -1 it is reached, else it is met.
def signs_ties(line, signs):
    counts = place_counts(line, signs)
    least = [high if count > 0 else low for count, low, high in zip(counts, line[2], line[3])]
    greatest = [low if count < 0 else high for count, low, high in zip(counts, line[2], line[3])]
    ties = place_ties(least, greatest)
    for i, total in enumerate(line[1]):
        if signs[i] >= 0:
            ties.append((i + line[0], i, total))
        if signs[i] <= 0:
            ties.append((i, i + line[0], -total))
    return ties


def line_change(line):
    signs = worthiest_signs(line)
    return (signs_worth(line, signs), row_by_cuts(signs_ties(line, signs), len(line[2])), signs)


def are_signs(line, signs):
    return len(signs) == len(line[1]) and all([sign in SIGNS for sign in signs])


def change_right(line, told):
    total = told[0]
    if not row_within(told[1], line[2], line[3]) or not are_signs(line, told[2]):
        return False
    return changes_of(line, told[1]) == total and signs_worth(line, told[2]) == total
