import itertools
import random
import unittest

from tellsum.errors import BadTelling
from tellsum.tellings import (
    floor_holds, line_holds, made_floor, made_line, made_ring, made_sets, ring_holds, sets_hold)
from tests.helpers import (
    all_rows, asked_twice, block, changed, direct_sums, fits, flat, floor_direct_sums, in_lists, refused_alone,
    ring_direct_sums, small_lines, whole_rows, with_number)

FAR = 10 ** 60 - 1
WRONG_KS = (1, 0, -1, -2, -5, 6, 7, 24, FAR, -FAR, 10 ** 5000)


def told_whole(case, told):
    """A line, a ring: a number and three rows."""
    case.assertIs(type(told), tuple)
    whole_rows(case, told[0], 0)
    for part in told[1:]:
        whole_rows(case, part, 1)


class MadeLine(unittest.TestCase):
    def made(self, *parts):
        for handed in (parts, in_lists(parts)):
            told = asked_twice(self, made_line, *handed)
            self.assertEqual(told, tuple(parts))
            told_whole(self, told)

    def refused(self, *parts):
        for handed in (parts, tuple(in_lists(parts))):
            refused_alone(self, BadTelling, made_line, *handed)

    def test_told_in_tuples(self):
        self.made(2, (3, 5), (0, 0, 0), (3, 3, 3))
        self.made(3, (-4,), (-FAR, 0, 1), (FAR, 0, 1))
        self.assertEqual(made_line(2, [3], (0, 1), [2, 3]), (2, (3,), (0, 1), (2, 3)))

    def test_each_k_and_each_count_of_places(self):
        for k in (2, 3, 4, 5):
            for count in range(1, 40):
                many = count + k - 1
                parts = (k, flat(count), flat(many, -1), flat(many, 1))
                if many <= 24:
                    self.made(*parts)
                else:
                    self.refused(*parts)

    def test_no_other_k(self):
        for k in WRONG_KS:
            for many in (1, 2, 3, 5, 6, 24):
                self.refused(k, flat(1), flat(many), flat(many))
                self.refused(k, flat(many), flat(many), flat(many))
        # As many places as each k would have with two sums.
        self.refused(1, flat(2), flat(2), flat(2))
        self.refused(6, flat(2), flat(7), flat(7))
        self.refused(0, flat(2), flat(1), flat(1))

    def test_no_sums(self):
        for k in (1, 2, 3, 4, 5, 6):
            for many in (0, k - 1, k):
                self.refused(k, (), flat(many), flat(many))

    def test_as_many_bounds_as_places(self):
        for k in (2, 3, 4, 5):
            for count in (1, 2, 25 - k):
                many = count + k - 1
                for less, more in ((0, 1), (1, 0), (0, -1), (-1, 0), (1, 1), (-1, -1), (-many, 0), (0, -many), (9, 0)):
                    self.refused(k, flat(count), flat(many + less), flat(many + more))

    def test_no_least_number_above_its_greatest(self):
        for k in (2, 3, 4, 5):
            for count in (1, 4):
                many = count + k - 1
                for place in range(many):
                    least = with_number(flat(many), place, 7)
                    self.made(k, flat(count), least, with_number(flat(many), place, 7))
                    self.refused(k, flat(count), least, with_number(flat(many), place, 6))
                    self.refused(k, flat(count), with_number(flat(many), place, FAR), flat(many, FAR - 1))

    def test_lists_changed_afterwards(self):
        parts = [[1, 2], [0, 0, 0], [4, 4, 4]]
        told = made_line(2, *parts)
        for part in parts:
            part[0] = 9
            part.append(8)
        self.assertEqual(told, (2, (1, 2), (0, 0, 0), (4, 4, 4)))


class MadeRing(unittest.TestCase):
    def made(self, *parts):
        for handed in (parts, in_lists(parts)):
            told = asked_twice(self, made_ring, *handed)
            self.assertEqual(told, tuple(parts))
            told_whole(self, told)

    def refused(self, *parts):
        for handed in (parts, tuple(in_lists(parts))):
            refused_alone(self, BadTelling, made_ring, *handed)

    def test_told_in_tuples(self):
        self.made(2, (3, 5, 4), (0, 0, 0), (3, 3, FAR))
        self.assertEqual(made_ring(2, [3, 4], (0, 1), [2, 3]), (2, (3, 4), (0, 1), (2, 3)))

    def test_each_k_and_each_count_of_places(self):
        for k in (2, 3, 4, 5):
            for many in range(0, 41):
                parts = (k, flat(many), flat(many, -1), flat(many, 1))
                if k <= many <= 24:
                    self.made(*parts)
                else:
                    self.refused(*parts)

    def test_no_other_k(self):
        for k in WRONG_KS:
            for many in (0, 1, 2, 6, 24):
                self.refused(k, flat(many), flat(many), flat(many))

    def test_as_many_bounds_as_places(self):
        for k in (2, 3, 4, 5):
            for many in (k, k + 1, 24):
                for less, more in ((0, 1), (1, 0), (0, -1), (-1, 0), (1, 1), (-1, -1), (-many, 0), (0, -many)):
                    self.refused(k, flat(many), flat(many + less), flat(many + more))
                self.refused(k, flat(many - k + 1), flat(many), flat(many))

    def test_no_least_number_above_its_greatest(self):
        for k in (2, 3, 4, 5):
            many = k + 2
            for place in range(many):
                least = with_number(flat(many), place, -3)
                self.made(k, flat(many), least, with_number(flat(many), place, -3))
                self.refused(k, flat(many), least, with_number(flat(many), place, -4))

    def test_lists_changed_afterwards(self):
        parts = [[1, 2], [0, 0], [4, 4]]
        told = made_ring(2, *parts)
        for part in parts:
            part[0] = 9
            part.append(8)
        self.assertEqual(told, (2, (1, 2), (0, 0), (4, 4)))


class MadeFloor(unittest.TestCase):
    def made(self, *parts):
        for handed in (parts, in_lists(parts), [list(part) for part in parts], [tuple(in_lists(p)) for p in parts]):
            told = asked_twice(self, made_floor, *handed)
            self.assertEqual(told, tuple(parts))
            whole_rows(self, told, 3)

    def refused(self, *parts):
        for handed in (parts, tuple(in_lists(parts))):
            refused_alone(self, BadTelling, made_floor, *handed)

    def test_told_in_tuples(self):
        self.made(((9,),), ((0, 0), (0, 0)), ((3, 3), (3, 3)))
        self.made(((9, FAR),), ((0, -FAR, 0), (0, 0, 1)), ((3, FAR, 0), (3, 3, 1)))

    def test_each_size(self):
        for rows in range(0, 9):
            for columns in range(0, 9):
                sums = block(max(rows - 1, 0), max(columns - 1, 0))
                parts = (sums, block(rows, columns, -1), block(rows, columns, 1))
                if 2 <= rows <= 6 and 2 <= columns <= 6:
                    self.made(*parts)
                else:
                    self.refused(*parts)
        self.refused(block(39, 1), block(40, 2), block(40, 2))
        self.refused(block(1, 39), block(2, 40), block(2, 40))

    def test_rows_of_unlike_lengths(self):
        for rows, columns in ((2, 2), (3, 4), (4, 3), (6, 6)):
            good = (block(rows - 1, columns - 1), block(rows, columns), block(rows, columns))
            for part in range(3):
                for r in range(len(good[part])):
                    row = good[part][r]
                    for other in (row + (0,), row[:-1], ()):
                        wrong = good[part][:r] + (other,) + good[part][r + 1:]
                        self.refused(*(good[:part] + (wrong,) + good[part + 1:]))
                    # Both bounds with the same unlike row.
                    if part == 1:
                        wrong = good[1][:r] + (row + (0,),) + good[1][r + 1:]
                        self.refused(good[0], wrong, wrong)

    def test_a_row_or_a_column_too_many_or_too_few(self):
        for rows, columns in ((2, 2), (3, 4), (4, 3), (6, 6)):
            good = (block(rows - 1, columns - 1), block(rows, columns), block(rows, columns))
            for part in range(3):
                tall, wide = len(good[part]), len(good[part][0])
                for more_rows, more_columns in ((1, 0), (-1, 0), (0, 1), (0, -1), (1, 1), (-tall, 0), (0, -wide)):
                    wrong = block(tall + more_rows, wide + more_columns)
                    self.refused(*(good[:part] + (wrong,) + good[part + 1:]))
            self.refused(good[1], good[1], good[2])
        self.refused(block(1, 2), block(3, 2), block(3, 2))
        self.refused(block(2, 1), block(2, 3), block(2, 3))

    def test_no_least_number_above_its_greatest(self):
        for rows, columns in ((2, 2), (2, 5), (4, 3), (6, 6)):
            sums = block(rows - 1, columns - 1)
            base = block(rows, columns)
            for r, c in itertools.product(range(rows), range(columns)):
                raised = base[:r] + (with_number(base[r], c, 4),) + base[r + 1:]
                nearly = base[:r] + (with_number(base[r], c, 3),) + base[r + 1:]
                self.made(sums, raised, raised)
                self.refused(sums, raised, nearly)

    def test_lists_changed_afterwards(self):
        parts = [[[1]], [[0, 0], [0, 0]], [[4, 4], [4, 4]]]
        told = made_floor(*parts)
        for part in parts:
            part[0][0] = 9
            part[0].append(8)
            part.append([7])
        self.assertEqual(told, (((1,),), ((0, 0), (0, 0)), ((4, 4), (4, 4))))


class MadeSets(unittest.TestCase):
    def made(self, *parts):
        for handed in (parts, in_lists(parts), (parts[0], list(parts[1]), list(parts[2]))):
            told = asked_twice(self, made_sets, *handed)
            self.assertEqual(told, tuple(parts))
            self.assertIs(type(told), tuple)
            whole_rows(self, told[0], 0)
            whole_rows(self, told[1], 2)
            whole_rows(self, told[2], 1)

    def refused(self, *parts):
        for handed in (parts, tuple(in_lists(parts))):
            refused_alone(self, BadTelling, made_sets, *handed)

    def test_told_in_tuples(self):
        self.made(3, ((0, 1), (1, 2)), (5, -FAR))
        self.made(1, ((0,),), (0,))
        self.made(7, (tuple(range(7)),), (FAR,))
        self.made(2, ((1,), (1,), (0, 1)), (1, 2, 3))

    def test_each_count_of_places(self):
        for many in (1, 2, 3, 4, 5, 6, 7):
            self.made(many, ((0,), (many - 1,)), (1, 2))
        for many in (-FAR, -7, -1, 0, 8, 9, 40, FAR, 10 ** 5000):
            self.refused(many, ((0,),), (1,))
        self.refused(8, ((0, 7),), (1,))

    def test_each_count_of_sets(self):
        for count in range(0, 41):
            parts = (2, ((0, 1),) * count, (3,) * count)
            if 1 <= count <= 7:
                self.made(*parts)
            else:
                self.refused(*parts)

    def test_each_set_is_right(self):
        wrong = ((), (1, 0), (0, 0), (0, 1, 1), (0, 2, 1), (2, 0, 1), (0, 1, 0), (-1,), (-1, 0), (-3, 1), (3,), (0, 3),
                 (0, 1, 2, 3), (-FAR, 2), (0, FAR), (2, 1, 0), (-1, 5), (1, -1, 2), (1, 3, 2))
        for places in wrong:
            self.refused(3, (places,), (1,))
            for number in range(3):
                sets = (((0, 1, 2),) * number + (places,) + ((1,),) * (2 - number))
                self.refused(3, sets, (1, 1, 1))
        for places in ((0,), (1,), (2,), (0, 1), (0, 2), (1, 2), (0, 1, 2)):
            self.made(3, (places,), (1,))

    def test_as_many_sums_as_sets(self):
        for count in range(1, 8):
            for other in range(0, 10):
                if other != count:
                    self.refused(2, ((0,),) * count, (1,) * other)

    def test_lists_changed_afterwards(self):
        parts = [[[0], [0, 1]], [1, 2]]
        told = made_sets(2, *parts)
        parts[0][1].append(5)
        parts[0].append([9])
        parts[1][0] = 9
        self.assertEqual(told, (2, ((0,), (0, 1)), (1, 2)))


class LineHolds(unittest.TestCase):
    def held(self, line, row, wanted):
        for handed in (tuple(row), list(row)):
            self.assertIs(asked_twice(self, line_holds, line, handed), wanted)

    def test_all_rows_near_small_lines(self):
        for line in small_lines(11, 12, 2):
            right = all_rows(line)
            for row in right:
                self.held(line, row, True)
            around = [(low - 1, low, high, high + 1) for low, high in zip(line[2], line[3])]
            chance = random.Random(1)
            for turn in range(200):
                row = tuple(chance.choice(numbers) for numbers in around)
                self.held(line, row, row in right)

    def test_one_off_at_any_place(self):
        for k in (2, 3, 4, 5):
            for many in (k, k + 1, 24):
                row = tuple(range(many))
                line = (k, direct_sums(row, k), flat(many, -FAR), flat(many, FAR))
                self.held(line, row, True)
                for place in range(many):
                    self.held(line, with_number(row, place, row[place] + 1), False)
                    self.held(line, with_number(row, place, row[place] - 1), False)

    def test_two_changed_so_that_some_sums_stay(self):
        row = (1, 2, 3, 4, 5)
        line = (2, direct_sums(row, 2), flat(5, -99), flat(5, 99))
        for place in range(4):
            self.held(line, with_number(with_number(row, place, row[place] + 1), place + 1, row[place + 1] - 1), False)
        self.held(line, (2, 1, 4, 3, 6), True)

    def test_beyond_a_bound(self):
        row = (4, 6, 5, 7, 4, 8)
        for k in (2, 3, 4, 5):
            line = (k, direct_sums(row, k), row, row)
            self.held(line, row, True)
            for place in range(6):
                self.held((k, line[1], with_number(row, place, row[place] + 1), flat(6, 99)), row, False)
                self.held((k, line[1], flat(6, -99), with_number(row, place, row[place] - 1)), row, False)

    def test_other_lengths(self):
        for k in (2, 3, 4, 5):
            row = flat(k + 3)
            line = (k, flat(4), row, row)
            self.held(line, row, True)
            for many in (0, 1, k - 1, k, k + 2, k + 4, 24, 25, 60):
                self.held(line, flat(many), False)

    def test_great_numbers(self):
        row = (FAR, -FAR, FAR)
        self.held((2, (0, 0), row, row), row, True)
        self.held((2, (0, 0), row, row), (FAR, -FAR, FAR - 1), False)


class RingHolds(unittest.TestCase):
    def held(self, ring, row, wanted):
        for handed in (tuple(row), list(row)):
            self.assertIs(asked_twice(self, ring_holds, ring, handed), wanted)

    def ring_round(self, row, k):
        return (k, ring_direct_sums(row, k))

    def test_one_off_at_any_place(self):
        for k in (2, 3, 4, 5):
            for many in (k, k + 1, 24):
                row = tuple(3 * p % 7 for p in range(many))
                ring = self.ring_round(row, k) + (flat(many, -9), flat(many, 9))
                self.held(ring, row, True)
                for place in range(many):
                    self.held(ring, with_number(row, place, row[place] + 1), False)
                    self.held(ring, with_number(row, place, row[place] - 1), False)

    def test_two_changed_so_that_some_sums_stay(self):
        ring = self.ring_round((1, 2, 3, 4), 2) + (flat(4, -9), flat(4, 9))
        self.held(ring, (2, 1, 3, 4), False)
        self.held(ring, (1, 2, 2, 5), False)
        self.held(ring, (2, 2, 3, 3), False)
        self.held(ring, (2, 1, 4, 3), True)
        # All sums of a line by 2 stay here, the one round the end doesn't.
        ring = self.ring_round((1, 2, 3), 2) + (flat(3, -9), flat(3, 9))
        self.held(ring, (2, 1, 4), False)

    def test_beyond_a_bound(self):
        row = (4, 6, 5, 7, 4, 8)
        for k in (2, 3, 4, 5):
            ring = self.ring_round(row, k)
            self.held(ring + (row, row), row, True)
            for place in range(6):
                self.held(ring + (with_number(row, place, row[place] + 1), flat(6, 99)), row, False)
                self.held(ring + (flat(6, -99), with_number(row, place, row[place] - 1)), row, False)

    def test_other_lengths(self):
        for k in (2, 3, 4, 5):
            ring = (k, flat(k + 1), flat(k + 1), flat(k + 1))
            self.held(ring, flat(k + 1), True)
            for many in (0, 1, k - 1, k, k + 2, 2 * k + 2, 25, 60):
                self.held(ring, flat(many), False)


class FloorHolds(unittest.TestCase):
    def held(self, floor, numbers, wanted):
        for handed in (numbers, in_lists(numbers), list(numbers), tuple(in_lists(numbers))):
            self.assertIs(asked_twice(self, floor_holds, floor, handed), wanted)

    def numbers_of(self, rows, columns):
        return tuple(tuple((3 * r + 5 * c) % 7 for c in range(columns)) for r in range(rows))

    def test_one_off_at_any_cell_and_beyond_any_bound(self):
        for rows, columns in itertools.product(range(2, 7), range(2, 7)):
            numbers = self.numbers_of(rows, columns)
            sums = floor_direct_sums(numbers)
            wide = (sums, block(rows, columns, -99), block(rows, columns, 99))
            self.held(wide, numbers, True)
            self.held((sums, numbers, numbers), numbers, True)
            for r, c in itertools.product(range(rows), range(columns)):
                self.held(wide, changed(numbers, r, c, 1), False)
                self.held(wide, changed(numbers, r, c, -1), False)
                self.held((sums, changed(numbers, r, c, 1), wide[2]), numbers, False)
                self.held((sums, wide[1], changed(numbers, r, c, -1)), numbers, False)

    def test_two_changed_so_that_some_sums_stay(self):
        numbers = self.numbers_of(3, 3)
        floor = (floor_direct_sums(numbers), block(3, 3, -9), block(3, 3, 9))
        self.held(floor, changed(changed(numbers, 0, 0, 1), 0, 1, -1), False)
        self.held(floor, changed(changed(numbers, 1, 1, 1), 1, 2, -1), False)
        self.held(floor, changed(changed(numbers, 0, 0, 1), 2, 2, -1), False)
        column = changed(changed(changed(numbers, 0, 0, 1), 1, 0, -1), 2, 0, 1)
        self.held(floor, column, True)

    def test_rows_and_numbers_more_or_fewer(self):
        for rows, columns in ((2, 2), (2, 3), (3, 2), (6, 6)):
            numbers = block(rows, columns)
            floor = (block(rows - 1, columns - 1), numbers, numbers)
            self.held(floor, numbers, True)
            for wrong in ((), ((),), ((),) * rows, block(rows + 1, columns), block(rows - 1, columns),
                          block(rows, columns + 1), block(rows, columns - 1), block(rows + 1, columns + 1),
                          block(columns, rows + 1), block(9, 9)):
                self.held(floor, wrong, False)
            for r in range(rows):
                for row in (numbers[r] + (0,), numbers[r][:-1], ()):
                    self.held(floor, numbers[:r] + (row,) + numbers[r + 1:], False)
        self.held((block(1, 2), block(2, 3), block(2, 3)), block(3, 2), False)


class SetsHold(unittest.TestCase):
    def held(self, telling, row, wanted):
        for handed in (tuple(row), list(row)):
            self.assertIs(asked_twice(self, sets_hold, telling, handed), wanted)

    def test_by_hand(self):
        telling = (3, ((0, 1), (1, 2)), (5, 7))
        self.held(telling, (1, 4, 3), True)
        self.held(telling, (FAR, 5 - FAR, 2 + FAR), True)
        self.held(telling, (-2, 7, 0), True)
        self.held(telling, (1, 4, 4), False)
        self.held(telling, (2, 4, 3), False)
        self.held(telling, (1, 5, 3), False)
        self.held(telling, (0, 5, 1), False)
        self.held(telling, (2, 3, 3), False)

    def test_a_place_of_no_set_is_any_number(self):
        for number in (0, -FAR, FAR, 10 ** 900):
            self.held((2, ((1,),), (4,)), (number, 4), True)
            self.held((2, ((1,),), (4,)), (number, 3), False)

    def test_each_set_counts(self):
        for count in range(1, 8):
            sets = tuple(tuple(range(number + 1)) for number in range(count))
            row = tuple(2 * p + 1 for p in range(7))
            sums = tuple(sum(row[:number + 1]) for number in range(count))
            self.held((7, sets, sums), row, True)
            for number in range(count):
                self.held((7, sets, with_number(sums, number, sums[number] + 1)), row, False)
                self.held((7, sets, with_number(sums, number, sums[number] - 1)), row, False)
                self.held((7, sets, sums), with_number(row, number, row[number] + 1), False)

    def test_other_lengths(self):
        for many in range(1, 8):
            telling = (many, ((0,),), (0,))
            for other in (0, 1, many - 1, many, many + 1, 8, 30):
                self.held(telling, flat(other), other == many)


class TheTestsOwn(unittest.TestCase):
    def test_all_rows_are_those_of_all_products(self):
        for line in small_lines(12, 6, 2):
            bounds = [range(low, high + 1) for low, high in zip(line[2], line[3])]
            direct = [row for row in itertools.product(*bounds) if fits(line, row)]
            self.assertEqual(all_rows(line), direct)


if __name__ == "__main__":
    unittest.main()
