"""What the tests of tellings of sets use. Nothing here is worked out by the program: ratios are added as fractions."""

import functools
import itertools
import math
import random
from fractions import Fraction

FAR = 10 ** 60 - 1
FARTHEST = 10 ** 5000

# Sets by how they lie: places, then the sets.
SHAPES = {
    "one place": (1, ((0,),)),
    "one place, several times": (1, ((0,), (0,), (0,))),
    "one set of all": (7, ((0, 1, 2, 3, 4, 5, 6),)),
    "a set of one place": (4, ((2,),)),
    "each place": (5, ((0,), (1,), (2,), (3,), (4,))),
    "the same set several times": (3, ((0, 2), (0, 2), (0, 1, 2), (0, 2))),
    "one in another": (6, ((0, 1, 2, 3, 4, 5), (1, 2, 3, 4), (2, 3), (3,))),
    "one in another, growing": (7, tuple(tuple(range(number + 1)) for number in range(7))),
    "no place in common": (7, ((0, 3), (1, 4, 6), (2,))),
    "places left out": (6, ((1, 3), (3, 4), (1, 4))),
    "all but one": (4, ((0, 1, 2), (0, 1, 3), (0, 2, 3), (1, 2, 3))),
    "all but one of five": (5, tuple(itertools.combinations(range(5), 4))),
    "all but one of seven": (7, tuple(itertools.combinations(range(7), 6))),
    "seven lines of three": (7, ((0, 1, 2), (0, 3, 4), (0, 5, 6), (1, 3, 5), (1, 4, 6), (2, 3, 6), (2, 4, 5))),
    "seven of four": (7, ((3, 4, 5, 6), (1, 2, 5, 6), (1, 2, 3, 4), (0, 2, 4, 6), (0, 2, 3, 5), (0, 1, 4, 5),
                          (0, 1, 3, 6))),
    # Of these no single set and no single place leads to the others in one step: parts of several sizes are left.
    "parts, five by five": (5, ((0, 1), (1, 2), (1, 3, 4), (0, 2, 4), (0, 3, 4))),
    "parts, five by five again": (5, ((1, 2), (0, 1), (1, 3, 4), (0, 2, 3, 4), (0, 2, 4))),
    "parts, five by six": (5, ((0, 2, 3, 4), (0, 1, 4), (1, 2, 3, 4), (0, 1, 3), (1, 2, 3, 4), (0, 1, 4))),
    "parts, six by five": (6, ((1, 3, 4), (0, 4, 5), (0, 2, 3, 4, 5), (0, 1, 2, 4), (0, 1, 2, 3, 5))),
    "parts, six by six": (6, ((1, 2, 3, 4), (1, 2, 5), (1, 2, 5), (0, 2, 3, 5), (0, 1, 4), (3, 4, 5))),
    "parts, six by seven": (6, ((0, 1, 4), (2, 3, 4), (1, 4), (1, 3, 5), (1, 2, 5), (0, 1, 3, 5), (0, 3, 4, 5))),
    "parts, seven by five": (7, ((0, 1, 2), (2, 3, 4, 5, 6), (0, 1, 3, 6), (0, 1, 3, 4, 5), (0, 1, 2))),
    "parts, seven by six": (7, ((0, 2, 4, 5, 6), (0, 1, 2, 3, 6), (1, 3, 4, 5, 6), (0, 2, 3), (0, 1, 2, 3, 4),
                                (0, 2, 3, 6))),
    "parts, seven by seven": (7, ((0, 2, 4, 5), (1, 2, 5, 6), (0, 1, 6), (1, 2, 3), (0, 3, 5, 6), (1, 4, 6),
                                  (0, 2, 3, 5, 6))),
    "parts, seven by seven again": (7, ((2, 3), (0, 2, 4, 5, 6), (1, 3, 5, 6), (0, 1, 3, 4), (3, 5), (0, 1, 2, 5),
                                        (0, 5))),
    "made of others": (5, ((0, 1), (2, 3), (0, 1, 2, 3), (1, 4), (0, 1, 4))),
}
for many, k in ((2, 2), (5, 2), (7, 2), (7, 3), (6, 4), (7, 5)):
    SHAPES[f"a line of {many} by {k}"] = (many, tuple(tuple(range(i, i + k)) for i in range(many - k + 1)))
for many, k in ((3, 2), (4, 2), (7, 2), (6, 3), (7, 3), (6, 4), (7, 5)):
    SHAPES[f"a ring of {many} by {k}"] = (
        many, tuple(tuple(sorted((i + j) % many for j in range(k))) for i in range(many)))


def direct_set_sums(row, sets):
    sums = []
    for places in sets:
        total = 0
        for place in places:
            total += row[place]
        sums.append(total)
    return tuple(sums)


def sets_fit(telling, row):
    return len(row) == telling[0] and direct_set_sums(row, telling[1]) == telling[2]


def sets_by_chance(chance, many, count):
    return tuple(tuple(sorted(chance.sample(range(many), chance.randint(1, many)))) for number in range(count))


def shapes(seed, each):
    """Places and sets: those by hand, and for each count of places and of sets so many by chance."""
    chance = random.Random(seed)
    found = list(SHAPES.values())
    for many, count in itertools.product(range(1, 8), repeat=2):
        for turn in range(each):
            found.append((many, sets_by_chance(chance, many, count)))
    return found


def row_by_chance(chance, many, far):
    return tuple(chance.randint(-far, far) for place in range(many))


def drawn_tellings(seed, each, far):
    """Tellings with the sums of a row by chance, no number of it further than far."""
    chance = random.Random(seed)
    tellings = []
    for many, sets in shapes(seed, each):
        tellings.append((many, sets, direct_set_sums(row_by_chance(chance, many, far), sets)))
    return tellings


def zero_telling(telling):
    return (telling[0], telling[1], (0,) * len(telling[1]))


def ratio_so(ratio):
    top, bottom = ratio
    return bottom >= 1 and math.gcd(top, bottom) == 1


def fraction(ratio):
    return Fraction(ratio[0], ratio[1])


def is_whole(number):
    return Fraction(number).denominator == 1


def weights_so(telling, weights):
    """Whether no row fits by these weights, clause by clause."""
    many, sets, sums = telling
    if len(weights) != len(sets) or not all(ratio_so(ratio) for ratio in weights):
        return False
    for place in range(many):
        if not is_whole(sum(fraction(ratio) for ratio, places in zip(weights, sets) if place in places)):
            return False
    return not is_whole(sum(fraction(ratio) * total for ratio, total in zip(weights, sums)))


def base_so(telling, told):
    """Whether these are base rows, back rows and shares, clause by clause."""
    many, sets = telling[:2]
    base, back, shares = told
    if len(back) != len(base) or [len(row) for row in (*base, *back)] != [many] * (2 * len(base)):
        return False
    if [len(row) for row in shares] != [len(sets)] * many or not all(ratio_so(pair) for row in shares for pair in row):
        return False
    if not all(sets_fit(zero_telling(telling), row) for row in base):
        return False
    for p, q in itertools.product(range(many), repeat=2):
        total = sum(row[p] * back_row[q] for row, back_row in zip(base, back))
        total += sum(fraction(shares[p][number]) for number, places in enumerate(sets) if q in places)
        if total != (p == q):
            return False
    for i, j in itertools.product(range(len(base)), repeat=2):
        if sum(a * b for a, b in zip(back[i], base[j])) != (i == j):
            return False
    return True


def rank_of(rows):
    """How many of the rows stand each for itself."""
    left = [list(row) for row in rows]
    rank = 0
    while left:
        row = left.pop()
        lead = next((place for place, number in enumerate(row) if number), None)
        if lead is not None:
            rank += 1
            left = [[row[lead] * number - other[lead] * less for number, less in zip(other, row)] for other in left]
    return rank


def set_rows(many, sets):
    return [[int(place in places) for place in range(many)] for places in sets]


def direct_settles(many, sets, places):
    """No two unlike rows with the same sums are alike at all places: these tell each number then."""
    return rank_of(set_rows(many, sets) + set_rows(many, [(place,) for place in places])) == many


@functools.lru_cache(maxsize=None)
def all_settling(many, sets):
    return [places for count in range(many + 1) for places in itertools.combinations(range(many), count)
            if direct_settles(many, sets, places)]


def settle_so(telling, costs, settling, told):
    """Whether these are places that settle, the cheapest, and their moves, clause by clause."""
    places, moves = told
    if tuple(places) not in settling or len(moves) != len(places):
        return False
    cheapest = min(sum(costs[place] for place in other) for other in settling)
    if sum(costs[place] for place in places) != cheapest:
        return False
    for place, move in zip(places, moves):
        if not sets_fit(zero_telling(telling), move):
            return False
        if move[place] == 0 or any(move[other] != 0 for other in places if other != place):
            return False
        if any(number != 0 and costs[other] < costs[place] for other, number in enumerate(move)):
            return False
    return True
