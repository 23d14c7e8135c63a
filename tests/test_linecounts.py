import random
import unittest

from tellsum.errors import NoFit, NoNumber
from tellsum.linecounts import line_at, line_many, line_number
from tests.helpers import (
    all_rows, asked_twice, few_steps, fits, flat, great_lines, is_greatest, is_least, moved, refused_alone,
    small_lines, tiny_lines, whole_rows, with_number)

FAR = 10 ** 60 - 1
FARTHEST = 10 ** 5000


def wide_line(k, low, high, total):
    """A line of 24 places, each sum the same: all places of a rest are alike."""
    return (k, flat(25 - k, total), flat(24, low), flat(24, high))


class SmallLines(unittest.TestCase):
    def judged(self, line):
        rows = all_rows(line)
        many = asked_twice(self, line_many, line)
        self.assertIs(type(many), int)
        self.assertEqual(many, len(rows))
        for number, row in enumerate(rows):
            told = asked_twice(self, line_at, line, number)
            self.assertEqual(told, row)
            whole_rows(self, told, 1)
            self.assertEqual(asked_twice(self, line_number, line, row), number)
            self.assertEqual(asked_twice(self, line_number, line, list(row)), number)
        for number in (-1, -2, len(rows), len(rows) + 1, -len(rows) - 1, FAR, -FAR, FARTHEST, -FARTHEST):
            refused_alone(self, NoNumber, line_at, line, number)
        return len(rows)

    def test_by_two_to_five(self):
        for k in (2, 3, 4, 5):
            counts = [self.judged(line) for line in small_lines(41, 80) if line[0] == k]
            self.assertIn(0, counts)
            self.assertIn(1, counts)
            self.assertGreater(max(counts), 2)

    def test_tiny(self):
        for line in tiny_lines():
            self.judged(line)

    def test_wider_bounds(self):
        chance = random.Random(42)
        for k in (2, 3, 4, 5):
            for turn in range(6):
                least = tuple(chance.randint(-3, 0) for place in range(k))
                greatest = tuple(low + chance.randint(0, 5) for low in least)
                # Every total from just beneath the lows to just above the highs.
                for total in range(sum(least) - 1, sum(greatest) + 2):
                    line = (k, (total,), least, greatest)
                    rows = all_rows(line)
                    self.assertEqual(line_many(line), len(rows))
                    self.assertEqual([line_at(line, number) for number in range(len(rows))], rows)
                    self.assertEqual([line_number(line, row) for row in rows], list(range(len(rows))))

    def test_none_where_none_fits(self):
        for line in ((2, (0, 4), (0, -9, 0), (2, 9, 3)), (2, (0, 9), (0, -9, 0), (2, 9, 3)), (2, (4,), (2, 3), (9, 9)),
                     (2, (6,), (0, 0), (2, 3)), (5, (-1,), flat(5), flat(5, 9)), (5, (46,), flat(5), flat(5, 9))):
            self.assertEqual(line_many(line), 0)
            for number in (0, 1, -1):
                refused_alone(self, NoNumber, line_at, line, number)
            refused_alone(self, NoFit, line_number, line, line[2])

    def test_clash_far_apart(self):
        # The span of rest 0 is far from having a number, while the sums of all spans' ends would do.
        for gap in (1, 2, 3, 10, FAR):
            line = (2, (0, 0), (gap, -2 * gap, -9), (gap + 9, 2 * gap, 0))
            self.assertEqual(line_many(line), 0)
            refused_alone(self, NoNumber, line_at, line, 0)

    def test_by_hand(self):
        line = (2, (3, 5), (0, 0, 0), (3, 3, 3))
        self.assertEqual(line_many(line), 2)
        self.assertEqual(line_at(line, 0), (0, 3, 2))
        self.assertEqual(line_at(line, 1), (1, 2, 3))
        self.assertEqual(line_number(line, (1, 2, 3)), 1)
        self.assertEqual(line_many((5, (3,), flat(5), flat(5, 9))), 35)
        self.assertEqual(line_many((3, (3,), flat(3), flat(3, 1))), 1)
        self.assertEqual(line_many((4, (2,), flat(4), flat(4, 1))), 6)


class RowsThatDoNotFit(unittest.TestCase):
    def test_refused(self):
        for line in small_lines(43, 12, 3):
            rows = all_rows(line)
            for row in rows[:2]:
                for place, number in enumerate(row):
                    for other in (number - 1, number + 1, FAR, -FAR, FARTHEST):
                        refused_alone(self, NoFit, line_number, line, with_number(row, place, other))
                    refused_alone(self, NoFit, line_number, line, row[:place] + row[place + 1:])
                refused_alone(self, NoFit, line_number, line, row + (0,))
                refused_alone(self, NoFit, line_number, line, list(row) + [row[-1]])
                refused_alone(self, NoFit, line_number, line, row[:line[0]] if len(row) > line[0] else row[:-1])
            refused_alone(self, NoFit, line_number, line, ())
            refused_alone(self, NoFit, line_number, line, [])
            refused_alone(self, NoFit, line_number, line, flat(60))

    def test_all_sums_but_beyond_a_bound(self):
        line = (2, (3, 5), (0, 0, 0), (3, 3, 3))
        for row in ((2, 1, 4), (-1, 4, 1)):
            refused_alone(self, NoFit, line_number, line, row)


class GreatLines(unittest.TestCase):
    def numbers_of(self, many):
        chance = random.Random(44)
        return [0, 1, many // 3, many // 2, many - 2, many - 1] + [chance.randrange(many) for turn in range(3)]

    def judged(self, line):
        many = few_steps(line_many, line)
        self.assertGreater(many, 10 ** 50)
        ahead = None
        for number in sorted(self.numbers_of(many)):
            row = few_steps(line_at, line, number)
            self.assertTrue(fits(line, row))
            self.assertEqual(few_steps(line_number, line, row), number)
            self.assertTrue(ahead is None or ahead < row)
            ahead = row
        self.assertTrue(is_least(line, line_at(line, 0)))
        self.assertTrue(is_greatest(line, line_at(line, many - 1)))
        for number in (-1, many, many + 1, 2 * many, -many, FARTHEST, -FARTHEST):
            refused_alone(self, NoNumber, line_at, line, number)
        return many

    def test_rows_lead_to_numbers_and_back(self):
        for line in great_lines():
            self.judged(line)

    def test_bounds_as_wide_as_can_be(self):
        for k in (2, 3, 4, 5):
            self.judged(wide_line(k, -FAR, FAR, 7))

    def test_counted_by_hand(self):
        # By 2 and by 3, without an upper end that counts, and with ends that do.
        self.assertEqual(line_many(wide_line(2, 0, FAR, FAR)), FAR + 1)
        self.assertEqual(line_many(wide_line(2, 0, FAR, FAR + 5)), FAR - 4)
        self.assertEqual(line_many(wide_line(3, 0, FAR, FAR)), (FAR + 1) * (FAR + 2) // 2)
        self.assertEqual(line_many(wide_line(3, 0, FAR, 2 * FAR)), (FAR + 1) * (FAR + 2) // 2)
        self.assertEqual(line_many(wide_line(4, 0, FAR, FAR)), (FAR + 1) * (FAR + 2) * (FAR + 3) // 6)
        self.assertEqual(line_many(wide_line(5, 0, FAR, FAR)), (FAR + 1) * (FAR + 2) * (FAR + 3) * (FAR + 4) // 24)
        self.assertEqual(line_many(wide_line(3, -FAR, FAR, 0)), 3 * FAR * (FAR + 1) + 1)

    def test_rows_side_by_side(self):
        for line in great_lines():
            k = line[0]
            many = line_many(line)
            row = line_at(line, many // 2)
            # The next row, where there is room for it, goes up by 1 in the last rest but one.
            after = moved(row, k, k - 1, k - 2)
            if fits(line, after):
                self.assertEqual(line_number(line, after), many // 2 + 1)
                self.assertEqual(line_at(line, many // 2 + 1), after)


if __name__ == "__main__":
    unittest.main()
