"""All rows of a telling: base rows that all rows with sums of 0 are made of, and what leads back to them."""

from tellsum.solve import Slant, all_ratios, products_sum, ratio_of, ratios_at, ratios_sum, unit_row
from tellsum.sums import set_sums
from tellsum.tellings import in_tuples


# How much of a set's sum the columns on the slant bring to a place.
def share_of(slant, place, number):
    parts = []
    for r in slant.slants:
        times = slant.ways[slant.slants[r]][place]
        parts.append((times * slant.weights[r][number], slant.slant_number(r)))
    total = ratios_sum(parts)
    return ratio_of(total[0], total[1])


def shares_of(slant, place):
    return tuple([share_of(slant, place, number) for number in range(len(slant.weights))])


def base_of(telling):
    slant = Slant(telling)
    # The columns without a number on the slant add nothing to any sum.
    columns = slant.open_columns()
    base = in_tuples([slant.ways[c] for c in columns])
    back = in_tuples([slant.backs[c] for c in columns])
    return (base, back, tuple([shares_of(slant, place) for place in range(telling[0])]))


def all_long(rows, many):
    return all([len(row) == many for row in rows])


def fits_nothing(telling, row):
    return set_sums(row, telling[1]) == (0,) * len(telling[1])


def forms_right(telling, base, back, shares):
    many = telling[0]
    if len(base) > many or len(back) != len(base) or len(shares) != many:
        return False
    if not all_long(base, many) or not all_long(back, many) or not all_long(shares, len(telling[1])):
        return False
    return all([all_ratios(ratios) for ratios in shares])


# What is at place q comes back to place p as it was where p is q, else not at all.
def comes_back(telling, told, p, q):
    by_base = sum([row[p] * back_row[q] for row, back_row in zip(told[0], told[1])])
    by_sets = ratios_sum(ratios_at(telling[1], told[2][p], q))
    wanted = 1 if p == q else 0
    return by_sets[0] == (wanted - by_base) * by_sets[1]


def place_right(telling, told, p):
    return all([comes_back(telling, told, p, q) for q in range(telling[0])])


def back_right(base, back, j):
    return [products_sum(back[j], row) for row in base] == unit_row(len(base), j)


def base_right(telling, told):
    base = told[0]
    if not forms_right(telling, base, told[1], told[2]):
        return False
    if not all([fits_nothing(telling, row) for row in base]):
        return False
    if not all([place_right(telling, told, p) for p in range(telling[0])]):
        return False
    return all([back_right(base, told[1], j) for j in range(len(base))])
