"""What the tests of lines with wrong sums use. Nothing here is worked out by the program."""

import itertools
import random

from tests.helpers import direct_sums, flat, great_line, line_round, tiny_lines, with_number

FAR = 10 ** 60 - 1
FARTHEST = 10 ** 5000


def within(line, row):
    least, greatest = line[2:]
    return len(row) == len(least) and all(least[p] <= row[p] <= greatest[p] for p in range(len(row)))


def rows_within(line):
    """Every row within the bounds."""
    return itertools.product(*[range(low, high + 1) for low, high in zip(line[2], line[3])])


def offs_of(line, row):
    """How far each sum of the row's is from the told one."""
    return [abs(total - told) for total, told in zip(direct_sums(row, line[0]), line[1])]


def with_sums(line, sums):
    return (line[0], tuple(sums), line[2], line[3])


def sums_set_off(chance, line, far, kind):
    """The line with one sum, all sums, the later ones, some of them otherwise, by far at most; or as it is."""
    sums = list(line[1])
    start = chance.randrange(len(sums))
    step = chance.choice((-1, 1)) * chance.randint(1, far)
    for i in range(len(sums)):
        if kind == "one" and i == start or kind == "all" or kind == "later" and i >= start:
            sums[i] += step
        if kind == "each":
            sums[i] += chance.randint(-far, far)
    return with_sums(line, sums)


KINDS = ("none", "one", "all", "later", "each")


def bounds_by_chance(chance, many, width):
    """How far beneath and above a number its bounds are: both alike, tight, or wide."""
    return [[chance.randint(0, width) for place in range(many)] for side in range(2)]


def off_lines(seed, each, longest, most_rows=1500):
    """Small lines with wrong sums, so few rows within the bounds that all can be gone through."""
    chance = random.Random(seed)
    lines = []
    for k, kind, turn in itertools.product((2, 3, 4, 5), KINDS, range(each)):
        many = k + turn % (longest + 1)
        row = [chance.randint(-3, 3) for place in range(many)]
        down, up = bounds_by_chance(chance, many, chance.choice((0, 1, 1, 2)))
        line = line_round(row, k, down, up)
        rows = 1
        for low, high in zip(line[2], line[3]):
            rows *= high - low + 1
        if rows <= most_rows:
            lines.append(sums_set_off(chance, line, chance.choice((1, 1, 3, 20)), kind))
    return lines


def small_off_lines(seed, each=12, longest=5):
    return off_lines(seed, each, longest) + tiny_lines()


def great_off_lines(seed, each=1):
    """Lines of up to 24 places by 2 to 5 with numbers of sixty figures, with wrong sums."""
    chance = random.Random(seed)
    lines = []
    for k, kind, turn in itertools.product((2, 3, 4, 5), KINDS, range(each)):
        line = great_line(chance.random(), k, chance.choice((24, 24, 23, 17)))
        far = chance.choice((1, 10 ** 30, 10 ** 58, 10 ** 59))
        lines.append(sums_set_off(chance, line, far, kind))
        # Bounds that leave hardly any room, or none.
        width = chance.choice((0, 1, 10 ** 20))
        row = [chance.randint(-10 ** 58, 10 ** 58) for place in range(24)]
        lines.append(sums_set_off(chance, line_round(row, k, *bounds_by_chance(chance, 24, width)), far, kind))
    return lines


def great_lines_by_2(seed, each=4):
    return [line for line in great_off_lines(seed, each) if line[0] == 2]


def one_sum_lines():
    """Lines of one sum, each with how far it is off at least."""
    for k in (2, 3, 4, 5):
        for total in range(-3, 3 * k + 4):
            yield (k, (total,), flat(k, -1), flat(k, 2)), max(0, -k - total, total - 2 * k)


def single_row_lines(seed):
    """Lines with both bounds alike at each place, with the one row within them."""
    chance = random.Random(seed)
    for k in (2, 3, 4, 5):
        for many in (k, k + 1, 24):
            row = tuple(chance.randint(-FAR, FAR) for place in range(many))
            yield (k, tuple(chance.randint(-FAR, FAR) for i in range(many - k + 1)), row, row), row


def one_off_lines():
    """Long lines that leave one row within the bounds, one of its sums otherwise, each with by how much."""
    row = tuple((7 * place) % 11 for place in range(24))
    for k, i, step in itertools.product((2, 3, 4, 5), (0, 7, 19), (1, -1, 10 ** 59)):
        line = line_round(row, k, flat(24), flat(24))
        yield with_sums(line, with_number(line[1], i, line[1][i] + step)), abs(step)
