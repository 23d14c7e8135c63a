import itertools
import random
import unittest

from tellsum.leastchange import change_right, changes_of, line_change, signs_worth
from tellsum.lines import fitted_line
from tests.helpers import asked_twice, direct_sums, few_steps, flat, whole_rows, with_number
from tests.wronghelpers import (
    FAR, FARTHEST, great_off_lines, off_lines, offs_of, one_off_lines, one_sum_lines, rows_within, single_row_lines,
    small_off_lines, with_sums, within)


def direct_worth(line, signs):
    """The worth of signs, clause by clause."""
    k, sums, least, greatest = line
    worth = 0
    for sign, total in zip(signs, sums):
        worth += sign * total
    for place in range(len(least)):
        count = 0
        for i in range(len(sums)):
            if i <= place < i + k:
                count += signs[i]
        if count > 0:
            worth -= count * greatest[place]
        if count < 0:
            worth -= count * least[place]
    return worth


def signs_by_chance(chance, many):
    return tuple(chance.choice((-1, 0, 1)) for i in range(many))


def change_so(line, told):
    """Whether a row within the bounds changes so much, and signs have just this worth."""
    total, row, signs = told
    if not within(line, row) or len(signs) != len(line[1]) or not all(sign in (-1, 0, 1) for sign in signs):
        return False
    return sum(offs_of(line, row)) == total == direct_worth(line, signs)


class Changes(unittest.TestCase):
    def test_small_lines(self):
        chance = random.Random(271)
        for line in small_off_lines(272, 4):
            for row in itertools.islice(rows_within(line), 20):
                wanted = sum(offs_of(line, row))
                self.assertEqual(asked_twice(self, changes_of, line, row), wanted)
                self.assertEqual(asked_twice(self, changes_of, line, list(row)), wanted)
            row = [chance.randint(-FAR, FAR) for place in line[2]]
            self.assertEqual(changes_of(line, row), sum(offs_of(line, row)))

    def test_by_hand(self):
        line = (2, (3, 5), (0, 0, 0), (9, 9, 9))
        self.assertEqual(changes_of(line, (1, 2, 3)), 0)
        self.assertEqual(changes_of(line, (0, 0, 0)), 8)
        self.assertEqual(changes_of(line, [9, 9, 9]), 28)
        self.assertEqual(changes_of(line, (1, 3, 1)), 2)

    def test_great_lines(self):
        chance = random.Random(273)
        for line in great_off_lines(274):
            for turn in range(4):
                row = tuple(chance.randint(low, high) for low, high in zip(line[2], line[3]))
                told = few_steps(changes_of, line, row)
                self.assertIs(type(told), int)
                self.assertEqual(told, sum(offs_of(line, row)))


class Worth(unittest.TestCase):
    def test_all_signs_of_small_lines(self):
        for line in off_lines(275, 8, 4):
            for signs in itertools.product((-1, 0, 1), repeat=len(line[1])):
                self.assertEqual(asked_twice(self, signs_worth, line, signs), direct_worth(line, signs))

    def test_no_row_changes_less_than_any_signs_are_worth(self):
        for line in off_lines(276, 4, 3):
            least = min(sum(offs_of(line, row)) for row in rows_within(line))
            for signs in itertools.product((-1, 0, 1), repeat=len(line[1])):
                self.assertLessEqual(signs_worth(line, signs), least)

    def test_all_0(self):
        for line in small_off_lines(277, 3) + great_off_lines(277):
            self.assertEqual(signs_worth(line, flat(len(line[1]))), 0)

    def test_by_hand(self):
        line = (2, (3, 5), (0, 1, 2), (7, 8, 9))
        self.assertEqual(signs_worth(line, (1, 1)), 8 - 7 - 16 - 9)
        self.assertEqual(signs_worth(line, (-1, -1)), -8 + 0 + 2 + 2)
        self.assertEqual(signs_worth(line, (1, -1)), 3 - 5 - 7 + 2)
        self.assertEqual(signs_worth(line, [0, -1]), -5 + 1 + 2)

    def test_great_lines(self):
        chance = random.Random(278)
        for line in great_off_lines(279):
            many = len(line[1])
            for signs in [flat(many, 1), flat(many, -1)] + [signs_by_chance(chance, many) for turn in range(5)]:
                told = few_steps(signs_worth, line, signs)
                self.assertIs(type(told), int)
                self.assertEqual(told, direct_worth(line, signs))
                self.assertEqual(asked_twice(self, signs_worth, line, list(signs)), told)


class Change(unittest.TestCase):
    def told(self, line):
        told = asked_twice(self, line_change, line)
        self.assertIs(type(told), tuple)
        self.assertEqual(len(told), 3)
        whole_rows(self, told[0], 0)
        whole_rows(self, told[1], 1)
        whole_rows(self, told[2], 1)
        self.assertTrue(change_so(line, told), (line, told))
        self.assertEqual(told[0] == 0, fitted_line(line)[0] == "row")
        return told

    def test_small_lines(self):
        seen = {True: 0, False: 0}
        for line in small_off_lines(281, 30, 7):
            total = self.told(line)[0]
            self.assertEqual(total, min(sum(offs_of(line, row)) for row in rows_within(line)))
            seen[total == 0] += 1
        self.assertGreater(min(seen.values()), 100, seen)

    def test_by_hand(self):
        self.assertEqual(line_change((2, (3,), (0, 0), (1, 1))), (1, (1, 1), (1,)))
        self.assertEqual(line_change((2, (-3,), (0, 0), (1, 1))), (3, (0, 0), (-1,)))
        self.assertEqual(self.told((2, (0, 5, 0), flat(4), flat(4, 9)))[0], 5)
        self.assertEqual(self.told((3, (0, 5, 0), flat(5), flat(5, 9)))[0], 5)
        self.assertEqual(self.told((2, (9, 0, 9), flat(4), flat(4, 9)))[0], 0)

    def test_one_sum(self):
        for line, wanted in one_sum_lines():
            self.assertEqual(self.told(line)[0], wanted)

    def test_both_bounds_alike(self):
        for line, row in single_row_lines(282):
            self.assertEqual(self.told(line)[:2], (sum(offs_of(line, row)), row))

    def test_great_lines(self):
        for line in great_off_lines(283, 2):
            few_steps(line_change, line)
            self.told(line)

    def test_one_sum_otherwise_in_a_long_line(self):
        for line, wanted in one_off_lines():
            self.assertEqual(self.told(line)[0], wanted)

    def test_with_the_sums_of_the_told_row_it_fits(self):
        for line in small_off_lines(284, 3) + great_off_lines(285):
            row = line_change(line)[1]
            self.assertEqual(line_change(with_sums(line, direct_sums(row, line[0])))[0], 0)


class Right(unittest.TestCase):
    def judged(self, line, told, wanted):
        self.assertIs(asked_twice(self, change_right, line, told), wanted, (line, told))

    def test_what_line_change_tells(self):
        for line in small_off_lines(291, 5) + great_off_lines(292):
            total, row, signs = line_change(line)
            self.judged(line, (total, row, signs), True)
            self.judged(line, (total, list(row), list(signs)), True)
            self.assertIs(few_steps(change_right, line, (total, row, signs)), True)

    def test_all_rows_and_all_signs(self):
        others = 0
        for line in off_lines(293, 4, 2, 300):
            total, row, signs = line_change(line)
            for other in rows_within(line):
                wanted = sum(offs_of(line, other)) == total
                self.judged(line, (total, other, signs), wanted)
                others += wanted and other != row
            for other in itertools.product((-1, 0, 1), repeat=len(signs)):
                wanted = direct_worth(line, other) == total
                self.judged(line, (total, row, other), wanted)
                others += wanted and other != signs
        self.assertGreater(others, 100)

    def test_total_otherwise(self):
        for line in small_off_lines(294, 3) + great_off_lines(295):
            total, row, signs = line_change(line)
            for other in (total + 1, total - 1, -total - 1, FARTHEST, -FARTHEST):
                self.judged(line, (other, row, signs), False)

    def test_another_total_that_the_row_or_the_signs_have(self):
        for line in off_lines(296, 4, 2, 300):
            total, row, signs = line_change(line)
            for other in itertools.islice(rows_within(line), 30):
                changes = sum(offs_of(line, other))
                self.judged(line, (changes, other, signs), changes == total)
            for other in itertools.product((-1, 0, 1), repeat=len(signs)):
                worth = direct_worth(line, other)
                self.judged(line, (worth, row, other), worth == total)

    def test_beyond_the_bounds(self):
        # These change less, or as much, but one number is beyond a bound.
        for line in off_lines(297, 8, 4):
            total, row, signs = line_change(line)
            for place in range(len(row)):
                for other in (line[2][place] - 1, line[3][place] + 1, line[3][place] + FARTHEST, -FARTHEST):
                    changed = with_number(row, place, other)
                    self.judged(line, (total, changed, signs), False)
                    self.judged(line, (sum(offs_of(line, changed)), changed, signs), False)
        self.judged((2, (3,), (0, 0), (1, 1)), (0, (1, 2), (0,)), False)
        self.judged((2, (3,), (0, 0), (1, 1)), (0, (2, 1), (0,)), False)
        self.judged((2, (-3,), (0, 0), (1, 1)), (0, (-1, -2), (0,)), False)

    def test_one_number_otherwise(self):
        for line in off_lines(298, 8, 4) + great_off_lines(298):
            total, row, signs = line_change(line)
            for place, step in itertools.product(range(len(row)), (-1, 1)):
                other = with_number(row, place, row[place] + step)
                self.judged(line, (total, other, signs), change_so(line, (total, other, signs)))

    def test_more_or_fewer_numbers(self):
        for line in off_lines(299, 4, 4):
            total, row, signs = line_change(line)
            for other in ((), row[:-1], row[1:], row + (0,), (0,) + row, row + row[-1:], row + (FARTHEST,), row * 50):
                self.judged(line, (total, other, signs), False)
            for other in ((), signs[:-1], signs[1:], signs + (0,), (0,) + signs, signs + signs[-1:], signs * 50):
                if len(other) != len(signs):
                    self.judged(line, (total, row, other), False)

    def test_what_is_no_sign(self):
        for line in off_lines(300, 4, 4):
            total, row, signs = line_change(line)
            for i in range(len(signs)):
                for other in (2, -2, FAR, -FAR, FARTHEST, -FARTHEST):
                    changed = with_number(signs, i, other)
                    self.judged(line, (total, row, changed), False)
                    self.judged(line, (direct_worth(line, changed), row, changed), False)
        # They would be worth what a row changes, if they were signs.
        self.judged((2, (4,), (0, 0), (1, 1)), (4, (0, 0), (2,)), False)
        self.judged((2, (4, 4), (0, 0, 0), (1, 1, 1)), (4, (1, 1, 1), (2, 0)), False)


if __name__ == "__main__":
    unittest.main()
