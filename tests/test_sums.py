import random
import unittest

from tellsum.sums import floor_sums, line_sums, ring_sums, set_sums
from tests.helpers import asked_twice, direct_sums, in_lists, whole_rows

FAR = 10 ** 60 - 1


def some_rows(k):
    """Rows of k to 24 numbers: small ones, 0, below 0, of sixty figures."""
    chance = random.Random(k)
    rows = [(0,) * k, (FAR,) * 24, (-FAR,) * k, (FAR, -FAR) * 12]
    for many in range(k, 25):
        rows.append(tuple(chance.randint(-9, 9) for place in range(many)))
        rows.append(tuple(chance.randint(-FAR, FAR) for place in range(many)))
    return rows


class LineSums(unittest.TestCase):
    def test_told_by_hand(self):
        self.assertEqual(line_sums((1, 2, 4, 8), 2), (3, 6, 12))
        self.assertEqual(line_sums((1, 2, 4, 8), 3), (7, 14))
        self.assertEqual(line_sums((1, 2, 4, 8), 4), (15,))
        self.assertEqual(line_sums((1, 2, 4, 8, 16, 32), 5), (31, 62))
        self.assertEqual(line_sums((5, -5), 2), (0,))
        self.assertEqual(line_sums((FAR, FAR, 1), 2), (2 * 10 ** 60 - 2, 10 ** 60))

    def test_as_told_number_by_number(self):
        for k in (2, 3, 4, 5):
            for row in some_rows(k):
                told = asked_twice(self, line_sums, row, k)
                self.assertEqual(told, direct_sums(row, k))
                self.assertEqual(len(told), len(row) - k + 1)
                whole_rows(self, told, 1)

    def test_lists_as_tuples(self):
        for k in (2, 3, 4, 5):
            for row in some_rows(k):
                told = asked_twice(self, line_sums, list(row), k)
                self.assertEqual(told, line_sums(row, k))
                whole_rows(self, told, 1)


class RingSums(unittest.TestCase):
    def test_told_by_hand(self):
        self.assertEqual(ring_sums((1, 2, 4), 2), (3, 6, 5))
        self.assertEqual(ring_sums((1, 2, 4, 8), 3), (7, 14, 13, 11))
        self.assertEqual(ring_sums((1, 2), 2), (3, 3))
        self.assertEqual(ring_sums((1, 2, 4, 8, 16), 5), (31,) * 5)
        self.assertEqual(ring_sums((1, 2, 4, 8, 16, 32), 4), (15, 30, 60, 57, 51, 39))

    def test_as_told_number_by_number(self):
        for k in (2, 3, 4, 5):
            for row in some_rows(k):
                many = len(row)
                direct = tuple(sum(row[(i + j) % many] for j in range(k)) for i in range(many))
                for handed in (row, list(row)):
                    told = asked_twice(self, ring_sums, handed, k)
                    self.assertEqual(told, direct)
                    whole_rows(self, told, 1)


class FloorSums(unittest.TestCase):
    def test_told_by_hand(self):
        self.assertEqual(floor_sums(((1, 2), (4, 8))), ((15,),))
        self.assertEqual(floor_sums(((1, 2, 4), (8, 16, 32))), ((27, 54),))
        self.assertEqual(floor_sums(((1, 2), (4, 8), (16, -32))), ((15,), (-4,)))
        self.assertEqual(floor_sums(((FAR, FAR), (FAR, FAR))), ((4 * FAR,),))

    def test_each_size_number_by_number(self):
        chance = random.Random(6)
        for rows in range(2, 7):
            for columns in range(2, 7):
                for far in (0, 9, FAR):
                    numbers = tuple(tuple(chance.randint(-far, far) for c in range(columns)) for r in range(rows))
                    direct = tuple(
                        tuple(numbers[r][c] + numbers[r][c + 1] + numbers[r + 1][c] + numbers[r + 1][c + 1]
                              for c in range(columns - 1))
                        for r in range(rows - 1))
                    for handed in (numbers, in_lists(numbers), list(numbers), tuple(in_lists(numbers))):
                        told = asked_twice(self, floor_sums, handed)
                        self.assertEqual(told, direct)
                        whole_rows(self, told, 2)


class SetSums(unittest.TestCase):
    def test_told_by_hand(self):
        self.assertEqual(set_sums((1, 2, 4), ((0, 2),)), (5,))
        self.assertEqual(set_sums((1, 2, 4), ((0,), (1, 2), (0, 1, 2))), (1, 6, 7))
        self.assertEqual(set_sums((7,), ((0,),)), (7,))
        self.assertEqual(set_sums((0, -3), ((0,), (1,), (1,))), (0, -3, -3))

    def test_one_to_seven_sets(self):
        chance = random.Random(7)
        for many in range(1, 8):
            for count in range(1, 8):
                for far in (9, FAR):
                    row = tuple(chance.randint(-far, far) for place in range(many))
                    sets = tuple(tuple(sorted(chance.sample(range(many), chance.randint(1, many))))
                                 for number in range(count))
                    direct = []
                    for places in sets:
                        total = 0
                        for place in places:
                            total += row[place]
                        direct.append(total)
                    for handed in ((row, sets), (list(row), in_lists(sets)), (row, list(sets))):
                        told = asked_twice(self, set_sums, *handed)
                        self.assertEqual(told, tuple(direct))
                        whole_rows(self, told, 1)


if __name__ == "__main__":
    unittest.main()
