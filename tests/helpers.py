"""What several tests use. Nothing here is worked out by the program: rows, rests and papers are gone through anew."""

import copy
import itertools
import random
import sys

STEPS = 400000


def direct_sums(row, k):
    """The sums of k neighbours, number by number."""
    sums = []
    for i in range(len(row) - k + 1):
        total = 0
        for j in range(k):
            total += row[i + j]
        sums.append(total)
    return tuple(sums)


def fits(line, row):
    k, sums, least, greatest = line
    if len(row) != len(least):
        return False
    if any(not least[p] <= row[p] <= greatest[p] for p in range(len(row))):
        return False
    return direct_sums(row, k) == sums


def all_rows(line):
    """Every row that fits, ascending: k - 1 numbers are gone through, each sum then tells one number more."""
    k, sums, least, greatest = line
    rows = []
    for start in itertools.product(*[range(least[p], greatest[p] + 1) for p in range(k - 1)]):
        row = list(start)
        for i in range(len(sums)):
            row.append(sums[i] - sum(row[i:i + k - 1]))
        if fits(line, row):
            rows.append(tuple(row))
    return sorted(rows)


def direct_more(line, place):
    """How much the number at a place is more than that of the first place of its rest."""
    k, sums = line[:2]
    more = 0
    while place >= k:
        place -= k
        more += sums[place + 1] - sums[place]
    return more


def is_place(line, number):
    return 0 <= number < len(line[2])


def paper_so(line, told):
    """Whether a clash, a low or a high is so, clause by clause."""
    k, sums, least, greatest = line
    if told[0] == "clash":
        a, b = told[1:]
        if not is_place(line, a) or not is_place(line, b) or a % k != b % k:
            return False
        return least[a] - direct_more(line, a) > greatest[b] - direct_more(line, b)
    places = told[1]
    if len(places) != k:
        return False
    for j, place in enumerate(places):
        if not is_place(line, place) or place % k != j:
            return False
    if told[0] == "low":
        return sum(least[p] - direct_more(line, p) for p in places) > sums[0]
    return told[0] == "high" and sum(greatest[p] - direct_more(line, p) for p in places) < sums[0]


def line_round(row, k, down, up):
    """The line of a row's sums, with bounds so far beneath and above each of its numbers."""
    least = tuple(number - less for number, less in zip(row, down))
    greatest = tuple(number + more for number, more in zip(row, up))
    return (k, direct_sums(row, k), least, greatest)


def small_line(chance, k, many):
    """A line with narrow bounds, now and then with a sum or a bound set off."""
    row = [chance.randint(-2, 3) for place in range(many)]
    width = chance.choice((1, 2, 3))
    down = [chance.randint(0, width) for place in range(many)]
    up = [chance.randint(0, width) for place in range(many)]
    k, sums, least, greatest = line_round(row, k, down, up)
    sums = list(sums)
    kind = chance.randint(0, 5)
    if kind == 0:
        sums[chance.randrange(len(sums))] += chance.choice((-2, -1, 1, 2))
    if kind == 1:
        step = chance.choice((-1, 1)) * chance.randint(1, 3 * k)
        sums = [total + step for total in sums]
    if kind == 2:
        off = chance.choice((-3, -2, -1, 1, 2, 3))
        place = chance.randrange(many)
        least = least[:place] + (least[place] + off,) + least[place + 1:]
        greatest = greatest[:place] + (greatest[place] + off,) + greatest[place + 1:]
    return (k, tuple(sums), least, greatest)


def small_lines(seed, each, longest=5):
    """Small lines by 2 to 5, so many of each, with up to so many places more than k."""
    chance = random.Random(seed)
    lines = []
    for k in (2, 3, 4, 5):
        for turn in range(each):
            lines.append(small_line(chance, k, k + turn % (longest + 1)))
    return lines


def tiny_lines():
    """Every line by 2 of two or three places with numbers from a narrow range."""
    lines = []
    bounds = ((0, 0), (0, 1), (0, 2), (1, 2))
    for many, span in ((2, range(-1, 6)), (3, range(0, 4))):
        for chosen in itertools.product(bounds, repeat=many):
            for sums in itertools.product(span, repeat=many - 1):
                lines.append((2, sums, tuple(b[0] for b in chosen), tuple(b[1] for b in chosen)))
    return lines


def great_line(seed, k, many=24):
    """A line of many places that some rows fit, with numbers and bounds of up to sixty figures."""
    chance = random.Random(seed)
    far = 10 ** 58
    row = [chance.randint(-far, far) for place in range(many)]
    down = [chance.randint(far, 3 * far) for place in range(many)]
    up = [chance.randint(far, 3 * far) for place in range(many)]
    return line_round(row, k, down, up)


def great_lines():
    return [great_line(seed, k) for seed, k in ((1, 2), (2, 3), (3, 4), (4, 5), (5, 5))]


def moved(row, k, down, up):
    """The row with 1 less at each place of one rest, 1 more at each of another."""
    return tuple(number - (p % k == down) + (p % k == up) for p, number in enumerate(row))


def is_least(line, row):
    """Whether a row that fits is the least: else some earlier rest could go down and a later one up."""
    k = line[0]
    return not any(fits(line, moved(row, k, j, later)) for j, later in itertools.combinations(range(k), 2))


def is_greatest(line, row):
    k = line[0]
    return not any(fits(line, moved(row, k, later, j)) for j, later in itertools.combinations(range(k), 2))


def in_lists(value):
    """The same in lists all through."""
    if isinstance(value, (tuple, list)):
        return [in_lists(part) for part in value]
    return value


def with_number(row, place, number):
    return tuple(row[:place]) + (number,) + tuple(row[place + 1:])


class TooManySteps(Exception):
    pass


def few_steps(function, *handed):
    """What a function tells, if it takes no more than some hundred thousand steps."""
    left = [STEPS]

    def tracer(frame, event, argument):
        left[0] -= 1
        if left[0] < 0:
            raise TooManySteps(function.__name__)
        return tracer

    before = sys.gettrace()
    sys.settrace(tracer)
    try:
        return function(*handed)
    finally:
        sys.settrace(before)


def asked_twice(case, function, *handed):
    """What is told, when it is the same twice and what was handed in stayed as it was."""
    kept = copy.deepcopy(handed)
    told = function(*handed)
    case.assertEqual(told, function(*handed))
    case.assertEqual(handed, kept)
    return told


def refused_alone(case, error, function, *handed):
    """The refusal is of just this class, not of one beneath it; what was handed in stays."""
    kept = copy.deepcopy(handed)
    with case.assertRaises(error) as caught:
        function(*handed)
    case.assertIs(type(caught.exception), error)
    case.assertEqual(handed, kept)


def whole_rows(case, value, depth):
    """Tuples so deep, of whole numbers that are no True or False."""
    if depth == 0:
        case.assertIs(type(value), int)
        return
    case.assertIs(type(value), tuple)
    for part in value:
        whole_rows(case, part, depth - 1)
