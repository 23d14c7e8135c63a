"""A book of stretches: it is told their sums, and tells those that come of them.

The sum of a stretch lies between two cuts: the one ahead of its first place and the one behind its last. So kept sums
are ways between cuts, and as none is kept that the others tell there is one way at most from a cut to another.
"""

from tellsum.errors import NoPast, NoPlace
from tellsum.floorsettle import joined


# By each cut that one comes to from the start: the pairs of numbers and signs of the kept sums on the way.
def ways_from(kept, start):
    ways = {start: []}
    # A way has no more sums than are kept: each turn leads at least one on.
    for turn in range(len(kept)):
        for number, stretch in enumerate(kept):
            ahead = stretch[0]
            behind = stretch[1] + 1
            if ahead in ways and behind not in ways:
                ways[behind] = ways[ahead] + [(number, 1)]
            elif behind in ways and ahead not in ways:
                ways[ahead] = ways[behind] + [(number, -1)]
    return ways


# None where the kept sums leave the stretch's sum open.
def signs_for(kept, a, b):
    ways = ways_from(kept, a)
    if b + 1 not in ways:
        return None
    return sorted(ways[b + 1])


def signs_total(kept, signs):
    return sum([kept[number][2] * sign for number, sign in signs])


class SumBook:
    def __init__(self, many):
        self.many = many
        self.kept = []

    def refuse_no_stretch(self, a, b):
        if not 0 <= a <= b < self.many:
            raise NoPlace("this is no stretch of the book's places")

    def tell_sum(self, a, b, total):
        self.refuse_no_stretch(a, b)
        signs = signs_for(self.kept, a, b)
        if signs is None:
            self.kept.append((a, b, total))
            return ("new", len(self.kept) - 1)
        return ("known" if signs_total(self.kept, signs) == total else "clash", signs)

    def ask_sum(self, a, b):
        self.refuse_no_stretch(a, b)
        signs = signs_for(self.kept, a, b)
        if signs is None:
            return ("free", None)
        return ("sum", signs_total(self.kept, signs), signs)

    def can_come(self):
        return self.many - len(self.kept)

    def known_many(self):
        groups = list(range(self.many + 1))
        for stretch in self.kept:
            groups = joined(groups, stretch[0], stretch[1] + 1)
        return sum([groups[cut + 1:].count(group) for cut, group in enumerate(groups)])

    def take_back(self):
        if len(self.kept) == 0:
            raise NoPast("no kept telling stands any more")
        self.kept.pop()
