"""What several tests use. Nothing here is worked out by the program: rows, rests and papers are gone through anew."""

import copy
import itertools
import math
import random
import sys

STEPS = 400000


def flat(many, number=0):
    return (number,) * many


def direct_sums(row, k):
    """The sums of k neighbours, number by number."""
    sums = []
    for i in range(len(row) - k + 1):
        total = 0
        for j in range(k):
            total += row[i + j]
        sums.append(total)
    return tuple(sums)


def fits(line, row, sums_of=direct_sums):
    k, sums, least, greatest = line
    if len(row) != len(least):
        return False
    if any(not least[p] <= row[p] <= greatest[p] for p in range(len(row))):
        return False
    return sums_of(row, k) == sums


def all_rows(line):
    """Every row that fits, ascending: k - 1 numbers are gone through, each sum then tells one number more."""
    k, sums, least, greatest = line
    rows = []
    for start in itertools.product(*[range(least[p], greatest[p] + 1) for p in range(k - 1)]):
        row = list(start)
        for i in range(len(sums)):
            row.append(sums[i] - sum(row[i:i + k - 1]))
        if fits(line, row):
            rows.append(tuple(row))
    return sorted(rows)


def direct_more(line, place):
    """How much the number at a place is more than that of the first place of its rest."""
    k, sums = line[:2]
    more = 0
    while place >= k:
        place -= k
        more += sums[place + 1] - sums[place]
    return more


def is_place(line, number):
    return 0 <= number < len(line[2])


def asks_so(line, mores, parts, total, told):
    """Whether a clash, a low or a high is so of so many rests or rounds, clause by clause."""
    least, greatest = line[2:]
    if told[0] == "clash":
        a, b = told[1:]
        if not is_place(line, a) or not is_place(line, b) or a % parts != b % parts:
            return False
        return least[a] - mores[a] > greatest[b] - mores[b]
    places = told[1]
    if len(places) != parts:
        return False
    for j, place in enumerate(places):
        if not is_place(line, place) or place % parts != j:
            return False
    if told[0] == "low":
        return sum(least[p] - mores[p] for p in places) > total
    return told[0] == "high" and sum(greatest[p] - mores[p] for p in places) < total


def paper_so(line, told):
    return asks_so(line, [direct_more(line, place) for place in range(len(line[2]))], line[0], line[1][0], told)


def line_round(row, k, down, up, sums_of=direct_sums):
    """The line of a row's sums, with bounds so far beneath and above each of its numbers; or the ring."""
    least = tuple(number - less for number, less in zip(row, down))
    greatest = tuple(number + more for number, more in zip(row, up))
    return (k, sums_of(row, k), least, greatest)


def small_line(chance, k, many, sums_of=direct_sums):
    """A line with narrow bounds, now and then with a sum or a bound set off; or a ring."""
    row = [chance.randint(-2, 3) for place in range(many)]
    width = chance.choice((1, 2, 3))
    down = [chance.randint(0, width) for place in range(many)]
    up = [chance.randint(0, width) for place in range(many)]
    k, sums, least, greatest = line_round(row, k, down, up, sums_of)
    sums = list(sums)
    kind = chance.randint(0, 5)
    if kind == 0:
        sums[chance.randrange(len(sums))] += chance.choice((-2, -1, 1, 2))
    if kind == 1:
        step = chance.choice((-1, 1)) * chance.randint(1, 3 * k)
        sums = [total + step for total in sums]
    if kind == 2:
        off = chance.choice((-3, -2, -1, 1, 2, 3))
        place = chance.randrange(many)
        least = least[:place] + (least[place] + off,) + least[place + 1:]
        greatest = greatest[:place] + (greatest[place] + off,) + greatest[place + 1:]
    return (k, tuple(sums), least, greatest)


def small_lines(seed, each, longest=5, sums_of=direct_sums):
    """Small lines by 2 to 5, so many of each, with up to so many places more than k; or rings."""
    chance = random.Random(seed)
    lines = []
    for k in (2, 3, 4, 5):
        for turn in range(each):
            lines.append(small_line(chance, k, k + turn % (longest + 1), sums_of))
    return lines


def tiny_lines():
    """Every line by 2 of two or three places with numbers from a narrow range."""
    lines = []
    bounds = ((0, 0), (0, 1), (0, 2), (1, 2))
    for many, span in ((2, range(-1, 6)), (3, range(0, 4))):
        for chosen in itertools.product(bounds, repeat=many):
            for sums in itertools.product(span, repeat=many - 1):
                lines.append((2, sums, tuple(b[0] for b in chosen), tuple(b[1] for b in chosen)))
    return lines


def great_line(seed, k, many=24, sums_of=direct_sums):
    """A line of many places that some rows fit, with numbers and bounds of up to sixty figures; or a ring."""
    chance = random.Random(seed)
    far = 10 ** 58
    row = [chance.randint(-far, far) for place in range(many)]
    down = [chance.randint(far, 3 * far) for place in range(many)]
    up = [chance.randint(far, 3 * far) for place in range(many)]
    return line_round(row, k, down, up, sums_of)


def great_lines():
    return [great_line(seed, k) for seed, k in ((1, 2), (2, 3), (3, 4), (4, 5), (5, 5))]


def ring_direct_sums(row, k):
    """The sums of k neighbours round a ring, number by number."""
    sums = []
    for i in range(len(row)):
        total = 0
        for j in range(k):
            total += row[(i + j) % len(row)]
        sums.append(total)
    return tuple(sums)


def ring_fits(ring, row):
    return fits(ring, row, ring_direct_sums)


def all_ring_rows(ring):
    """Every row that fits a ring, ascending: those of the line of all its sums but the ones round its end."""
    k, sums, least, greatest = ring
    return [row for row in all_rows((k, sums[:len(sums) - k + 1], least, greatest)) if ring_fits(ring, row)]


def rounds_of(ring):
    return math.gcd(ring[0], len(ring[1]))


def ring_walk(ring, j):
    """The mores of the places of round j, in the order of the walk, and what is added up when one is back."""
    k, sums = ring[:2]
    mores = {}
    place, more = j, 0
    while place not in mores:
        mores[place] = more
        following = place + 1 if place + 1 < len(sums) else 0
        more += sums[following] - sums[place]
        place = (place + k) % len(sums)
    return mores, more


def ring_mores(ring):
    mores = {}
    for j in range(rounds_of(ring)):
        mores.update(ring_walk(ring, j)[0])
    return mores


def ring_whole(ring):
    """What the heads add up to, each taken as often as its round has one of the first k places."""
    mores = ring_mores(ring)
    return ring[1][0] - sum(mores[place] for place in range(ring[0]))


def ring_paper_so(ring, told):
    """Whether a paper of a ring is so, clause by clause."""
    parts = rounds_of(ring)
    backs = [ring_walk(ring, j)[1] for j in range(parts)]
    if told[0] == "round":
        return told[1] in range(parts) and backs[told[1]] != 0
    if any(backs):
        return False
    total, left = divmod(ring_whole(ring), ring[0] // parts)
    if told[0] == "part":
        return left != 0 and told[1] == left
    return left == 0 and asks_so(ring, ring_mores(ring), parts, total, told)


def small_rings(seed, each, longest=5):
    return small_lines(seed, each, longest, ring_direct_sums)


def tiny_rings():
    """Every ring by 2 of two or three places, by 3 of three places, with numbers from a narrow range."""
    rings = []
    for k, many, bounds, span in ((2, 2, ((0, 0), (0, 1), (0, 2), (1, 2)), range(-1, 6)),
                                  (2, 3, ((0, 1), (1, 2)), range(0, 4)), (3, 3, ((0, 1), (1, 2)), range(1, 6))):
        for chosen in itertools.product(bounds, repeat=many):
            for sums in itertools.product(span, repeat=many):
                rings.append((k, sums, tuple(b[0] for b in chosen), tuple(b[1] for b in chosen)))
    return rings


def great_ring(seed, k, many=24):
    return great_line(seed, k, many, ring_direct_sums)


def great_rings():
    """Rings where k divides the count of places, where both have no common divisor, where one is between."""
    sizes = ((2, 24), (3, 24), (4, 24), (5, 20), (2, 23), (3, 23), (4, 23), (5, 24), (4, 22), (5, 5), (4, 4))
    return [great_ring(seed, k, many) for seed, (k, many) in enumerate(sizes)]


def moved(row, k, down, up):
    """The row with 1 less at each place of one rest, 1 more at each of another."""
    return tuple(number - (p % k == down) + (p % k == up) for p, number in enumerate(row))


def is_least(line, row):
    """Whether a row that fits is the least: else some earlier rest could go down and a later one up."""
    k = line[0]
    return not any(fits(line, moved(row, k, j, later)) for j, later in itertools.combinations(range(k), 2))


def is_greatest(line, row):
    k = line[0]
    return not any(fits(line, moved(row, k, later, j)) for j, later in itertools.combinations(range(k), 2))


def floor_direct_sums(numbers):
    """The sums of four neighbours on a floor, number by number."""
    return tuple(
        tuple(numbers[r][c] + numbers[r][c + 1] + numbers[r + 1][c] + numbers[r + 1][c + 1]
              for c in range(len(numbers[0]) - 1))
        for r in range(len(numbers) - 1))


def cells_on(rows, columns):
    return list(itertools.product(range(rows), range(columns)))


def floor_sizes():
    return list(itertools.product(range(2, 7), repeat=2))


def floor_size(floor):
    return len(floor[1]), len(floor[1][0])


def no_cells(rows, columns):
    """Pairs that are no cells of a floor of this size."""
    far, farthest = 10 ** 60 - 1, 10 ** 5000
    return [(-1, 0), (0, -1), (-1, -1), (rows, 0), (0, columns), (rows, columns), (rows - 1, columns),
            (rows, columns - 1), (-rows, -columns), (-rows, 0), (0, -columns), (rows + 1, 0), (0, columns + 1),
            (far, 0), (0, far), (-far, 0), (0, -far), (farthest, -farthest)]


def numbers_within(floor, numbers):
    least, greatest = floor[1:]
    return all(least[r][c] <= numbers[r][c] <= greatest[r][c] for r, c in cells_on(*floor_size(floor)))


def floor_fits(floor, numbers):
    rows, columns = floor_size(floor)
    if [len(row) for row in numbers] != [columns] * rows:
        return False
    return numbers_within(floor, numbers) and floor_direct_sums(numbers) == floor[0]


def next_row(above, sums, start):
    """The row that begins so and has these sums with the one above it."""
    row = [start]
    for c, total in enumerate(sums):
        row.append(total - above[c] - above[c + 1] - row[c])
    return tuple(row)


def all_numberings(floor):
    """Every numbering that fits, ascending: the first row and column are gone through, sums tell all other numbers."""
    sums, least, greatest = floor
    spans = [[range(low, high + 1) for low, high in zip(*rows)] for rows in zip(least, greatest)]
    found = [(row,) for row in itertools.product(*spans[0])]
    for r in range(1, len(least)):
        grown = []
        for numbers in found:
            for start in spans[r][0]:
                row = next_row(numbers[-1], sums[r - 1], start)
                if all(number in span for number, span in zip(row, spans[r])):
                    grown.append(numbers + (row,))
        found = grown
    return sorted(found)


def some_numbering(floor, chance):
    """A numbering with a floor's sums, bounds left aside, its first row and column by chance."""
    rows, columns = floor_size(floor)
    numbers = [tuple(chance.randint(-9, 9) for c in range(columns))]
    for sums in floor[0]:
        numbers.append(next_row(numbers[-1], sums, chance.randint(-9, 9)))
    return tuple(numbers)


def tour_by(row_turn, column_turn):
    """The tour that comes to these rows and these columns, by turns."""
    cells = []
    for i, c in enumerate(column_turn):
        cells.append((row_turn[i], c))
        cells.append((row_turn[(i + 1) % len(row_turn)], c))
    return cells


def turn_by_chance(chance, count, half):
    """So many numbers, each another one than the one ahead of it, the last one than the first."""
    while True:
        turn = [chance.randrange(count) for i in range(half)]
        if all(turn[i] != turn[i - 1] for i in range(half)):
            return turn


def tour_by_chance(chance, rows, columns, half):
    # An odd count of turns between two can't come back.
    if min(rows, columns) == 2 and half % 2 == 1:
        half += 1
    return tour_by(turn_by_chance(chance, rows, half), turn_by_chance(chance, columns, half))


def is_tour(floor, cells):
    rows, columns = floor_size(floor)
    if len(cells) < 4 or len(cells) % 2 == 1:
        return False
    if any(not 0 <= r < rows or not 0 <= c < columns for r, c in cells):
        return False
    for place, (r, c) in enumerate(cells):
        ahead_r, ahead_c = cells[place - 1]
        if (r, c) == (ahead_r, ahead_c):
            return False
        if place % 2 == 1 and c != ahead_c:
            return False
        if place % 2 == 0 and r != ahead_r:
            return False
    return True


def direct_balance(numbers, cells):
    return sum((-1) ** (r + c) * (-1) ** place * numbers[r][c] for place, (r, c) in enumerate(cells))


def most_balance(floor, cells):
    """The greatest balance of a tour by numbers within the bounds, each cell counted with all its signs."""
    times = {}
    for place, (r, c) in enumerate(cells):
        times[r, c] = times.get((r, c), 0) + (-1) ** (r + c + place)
    return sum(count * (floor[2] if count > 0 else floor[1])[r][c] for (r, c), count in times.items())


def tour_so(floor, cells):
    """Whether these cells are a tour that shows that nothing fits."""
    if not is_tour(floor, cells):
        return False
    return direct_balance(some_numbering(floor, random.Random(1)), cells) > most_balance(floor, cells)


def block(rows, columns, number=0):
    return tuple((number,) * columns for r in range(rows))


def changed(numbers, r, c, more):
    """The numbers with so much more at one cell."""
    return numbers[:r] + (with_number(numbers[r], c, numbers[r][c] + more),) + numbers[r + 1:]


def numbers_by_chance(chance, rows, columns, low, high):
    return tuple(tuple(chance.randint(low, high) for c in range(columns)) for r in range(rows))


def added(numbers, others, sign=1):
    return tuple(tuple(a + sign * b for a, b in zip(*rows)) for rows in zip(numbers, others))


def floor_by_chance(chance, rows, columns, far, width):
    """A floor that some numbers fit, no number further than far, no bound further than width from it."""
    numbers = numbers_by_chance(chance, rows, columns, -far, far)
    least = added(numbers, numbers_by_chance(chance, rows, columns, 0, width), -1)
    greatest = added(numbers, numbers_by_chance(chance, rows, columns, 0, width))
    return (floor_direct_sums(numbers), least, greatest)


def floor_set_off(chance, floor, far):
    """The floor with a sum or a bound set off, or as it is."""
    sums, least, greatest = floor
    rows, columns = floor_size(floor)
    kind = chance.randint(0, 3)
    if kind == 0:
        more = chance.choice((-1, 1)) * chance.randint(1, far)
        sums = changed(sums, chance.randrange(rows - 1), chance.randrange(columns - 1), more)
    if kind == 1:
        r, c = chance.randrange(rows), chance.randrange(columns)
        more = chance.choice((-1, 1)) * chance.randint(1, far)
        least, greatest = changed(least, r, c, more), changed(greatest, r, c, more)
    return (sums, least, greatest)


def small_floors(seed, each, widest=3):
    """Floors of two to six rows and columns, so many of each size, with narrow bounds."""
    chance = random.Random(seed)
    floors = []
    for rows, columns in floor_sizes():
        # Of all numbers of the first row and column as many as can be gone through.
        width = min(widest, 1 if rows + columns > 6 else 2 if rows + columns > 5 else 3)
        for turn in range(each):
            floor = floor_by_chance(chance, rows, columns, 3, min(width, 1 + turn % 3))
            floors.append(floor_set_off(chance, floor, 1 + 2 * width))
    return floors


def great_floors(seed, set_off):
    """Floors of all sizes with numbers of sixty figures, or with one of them off."""
    chance = random.Random(seed)
    floors = []
    for rows, columns in floor_sizes():
        floor = floor_by_chance(chance, rows, columns, 10 ** 58, chance.choice((0, 10 ** 20, 10 ** 57, 10 ** 58)))
        floors.append(floor_set_off(chance, floor, 10 ** 58) if set_off else floor)
    return floors


def loop_floor(chance, rows, columns, half, far=10 ** 6):
    """A floor with wide bounds but along a tour, whose balance they leave just as it is; and the tour."""
    numbers = numbers_by_chance(chance, rows, columns, -9, 9)
    bounds = [added(numbers, block(rows, columns, far), -1), added(numbers, block(rows, columns, far))]
    cells = tour_by(chance.sample(range(rows), half), chance.sample(range(columns), half))
    for place, (r, c) in enumerate(cells):
        side = 1 if (r + c + place) % 2 == 0 else 0
        bounds[side] = changed(bounds[side], r, c, far if side == 0 else -far)
    return (floor_direct_sums(numbers), bounds[0], bounds[1]), cells


def tightened(floor, cells, place):
    """The floor with one bound along the tour nearer by 1."""
    r, c = cells[place]
    if (r + c + place) % 2 == 0:
        return (floor[0], floor[1], changed(floor[2], r, c, -1))
    return (floor[0], changed(floor[1], r, c, 1), floor[2])


def in_lists(value):
    """The same in lists all through."""
    if isinstance(value, (tuple, list)):
        return [in_lists(part) for part in value]
    return value


def with_number(row, place, number):
    return tuple(row[:place]) + (number,) + tuple(row[place + 1:])


class TooManySteps(Exception):
    pass


def few_steps(function, *handed):
    """What a function tells, if it takes no more than some hundred thousand steps."""
    left = [STEPS]

    def tracer(frame, event, argument):
        left[0] -= 1
        if left[0] < 0:
            raise TooManySteps(function.__name__)
        return tracer

    before = sys.gettrace()
    sys.settrace(tracer)
    try:
        return function(*handed)
    finally:
        sys.settrace(before)


def asked_twice(case, function, *handed):
    """What is told, when it is the same twice and what was handed in stayed as it was."""
    kept = copy.deepcopy(handed)
    told = function(*handed)
    case.assertEqual(told, function(*handed))
    case.assertEqual(handed, kept)
    return told


def refused_alone(case, error, function, *handed):
    """The refusal is of just this class, not of one beneath it; what was handed in stays."""
    kept = copy.deepcopy(handed)
    with case.assertRaises(error) as caught:
        function(*handed)
    case.assertIs(type(caught.exception), error)
    case.assertEqual(handed, kept)


def whole_rows(case, value, depth):
    """Tuples so deep, of whole numbers that are no True or False."""
    if depth == 0:
        case.assertIs(type(value), int)
        return
    case.assertIs(type(value), tuple)
    for part in value:
        whole_rows(case, part, depth - 1)
