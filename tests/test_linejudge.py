import itertools
import unittest

from tellsum.linejudge import line_right
from tellsum.lines import fitted_line
from tests.helpers import (
    all_rows, asked_twice, direct_more, direct_sums, few_steps, flat, great_lines, moved, paper_so, small_lines,
    tiny_lines, with_number)

FAR = 10 ** 60 - 1
FARTHEST = 10 ** 5000


class Judge(unittest.TestCase):
    def judged(self, line, told, wanted):
        self.assertIs(asked_twice(self, line_right, line, told), wanted, told[0])

    def judged_row(self, line, row, wanted):
        self.judged(line, ("row", tuple(row)), wanted)
        self.judged(line, ("row", list(row)), wanted)


class OfWhatIsTold(Judge):
    def test_small_lines(self):
        seen = {"row": 0, "clash": 0, "low": 0, "high": 0}
        for line in small_lines(31, 150) + tiny_lines():
            told = fitted_line(line)
            seen[told[0]] += 1
            self.judged(line, told, True)
        self.assertGreater(min(seen.values()), 20, seen)

    def test_great_lines(self):
        for line in great_lines():
            self.assertIs(few_steps(line_right, line, fitted_line(line)), True)


class OfRows(Judge):
    def test_all_rows_of_small_lines(self):
        others = 0
        for line in small_lines(32, 40, 4):
            rows = all_rows(line)
            for number, row in enumerate(rows):
                self.judged_row(line, row, number == 0)
                others += number > 0
        self.assertGreater(others, 300)

    def test_the_next_least_and_the_one_with_less_beyond_a_bound(self):
        for k in (2, 3, 4, 5):
            for first, second in itertools.combinations(range(k), 2):
                for many in (k, k + 1, 2 * k, 24):
                    # Just these two rests have room: the first from 0 to 2, the second as far, the others none.
                    greatest = tuple(2 if p % k in (first, second) else 0 for p in range(many))
                    line = (k, flat(many - k + 1, 2), flat(many), greatest)
                    least = tuple(2 if p % k == second else 0 for p in range(many))
                    self.judged_row(line, least, True)
                    self.judged_row(line, moved(least, k, second, first), False)
                    self.judged_row(line, moved(least, k, first, second), False)

    def test_one_number_otherwise_more_or_fewer(self):
        for line in small_lines(33, 25, 4):
            rows = all_rows(line)
            if rows:
                least = rows[0]
                for place, number in enumerate(least):
                    for other in (number - 1, number + 1, number - FAR, FARTHEST, -FARTHEST):
                        self.judged_row(line, with_number(least, place, other), False)
                    self.judged_row(line, least[:place] + least[place + 1:], False)
                    self.judged_row(line, least[:place] + (number,) + least[place:], False)
                self.judged_row(line, (), False)
                self.judged_row(line, least + least, False)

    def test_where_no_row_fits(self):
        for line in small_lines(34, 60, 4):
            if not all_rows(line):
                self.judged_row(line, line[2], False)
                self.judged_row(line, line[3], False)
                self.judged_row(line, (), False)
        # All sums, but place 0 is beyond a bound.
        self.judged_row((2, (3, 3), (1, 0, 0), (9, 2, 9)), (0, 3, 0), False)
        self.judged_row((2, (3, 3), (1, 0, 0), (9, 1, 9)), (1, 2, 1), False)

    def test_great_numbers(self):
        line = (2, (0, 1), flat(3, -FAR), flat(3, FAR))
        self.judged_row(line, (-FAR, FAR, 1 - FAR), True)
        self.judged_row(line, (1 - FAR, FAR - 1, 2 - FAR), False)
        self.judged_row(line, (-FAR - 1, FAR + 1, -FAR), False)
        self.judged_row(line, (-FARTHEST, FARTHEST, 1 - FARTHEST), False)


class OfPapers(Judge):
    def test_every_clash(self):
        so = 0
        for line in small_lines(35, 40, 4) + tiny_lines()[::7]:
            many = len(line[2])
            numbers = list(range(-many - 2, many + 3)) + [FAR, -FAR]
            for a, b in itertools.product(numbers, repeat=2):
                wanted = paper_so(line, ("clash", a, b))
                self.assertIs(line_right(line, ("clash", a, b)), wanted)
                so += wanted
        self.assertGreater(so, 50)

    def test_clash_by_one_and_the_other_way_about(self):
        line = (2, (0, 4), (0, -9, 0), (2, 9, 3))
        self.judged(line, ("clash", 0, 2), True)
        self.judged(line, ("clash", 2, 0), False)
        self.judged(line, ("clash", 0, 1), False)
        self.judged(line, ("clash", 0, 0), False)
        self.judged((2, (0, 4), (0, -9, 0), (2, 9, 4)), ("clash", 0, 2), False)

    def test_clash_of_unlike_rests(self):
        # Place 0's least number is above the greatest one of place 1 and of place 3, but both are of rest 1.
        line = (2, flat(3), (5, -9, 5, -9), (9, -5, 9, -5))
        for a, b in itertools.product(range(4), repeat=2):
            self.judged(line, ("clash", a, b), False)

    def test_clash_of_numbers_that_are_no_places(self):
        # Counted from behind the end they would be a clash.
        line = (2, (0, 4), (0, -9, 0), (2, 9, 3))
        for a, b in ((-3, 2), (0, -1), (-3, -1), (0, 4), (3, 2), (3, 5), (0, 2 * FAR), (-FARTHEST, 2), (0, FARTHEST)):
            self.judged(line, ("clash", a, b), False)
        line = (2, flat(3), (5, 0, 0, 0), (9, 9, 4, 9))
        self.judged(line, ("clash", 0, 2), True)
        for a, b in ((-4, 2), (0, -2), (-4, -2), (4, 2), (0, 6), (-8, 2)):
            self.judged(line, ("clash", a, b), False)

    def test_every_low_and_high(self):
        seen = {"low": 0, "high": 0}
        for line in small_lines(36, 25, 3) + tiny_lines()[::7]:
            k, many = line[0], len(line[2])
            numbers = range(-1, many + 1) if k < 4 else range(many)
            for places in itertools.product(numbers, repeat=k):
                for word in ("low", "high"):
                    wanted = paper_so(line, (word, places))
                    self.assertIs(line_right(line, (word, places)), wanted)
                    seen[word] += wanted
        self.assertGreater(min(seen.values()), 20, seen)

    def edge_lines(self, word):
        """Lines with places whose bounds less their mores add up to just sum 0, and to one beyond it."""
        for k in (2, 3, 4, 5):
            for many in (k, k + 2, 3 * k):
                row = tuple(p * p % 5 for p in range(many))
                sums = direct_sums(row, k)
                if word == "low":
                    just = (k, sums, row, flat(many, 99))
                    off = (k, tuple(s - 1 for s in sums), row, flat(many, 99))
                else:
                    just = (k, sums, flat(many, -99), row)
                    off = (k, tuple(s + 1 for s in sums), flat(many, -99), row)
                yield just, off

    def test_low_and_high_by_one_and_just_not(self):
        for word in ("low", "high"):
            for just, off in self.edge_lines(word):
                k, many = just[0], len(just[2])
                for turn in range(many // k):
                    places = tuple(range(k * turn, k * turn + k))
                    self.judged(off, (word, places), True)
                    self.judged(just, (word, places), False)
                    self.judged(off, ("high" if word == "low" else "low", places), False)

    def test_low_and_high_of_wrong_places(self):
        for word in ("low", "high"):
            for just, off in self.edge_lines(word):
                k, many = off[0], len(off[2])
                right = tuple(range(k))
                self.judged(off, (word, right), True)
                for places in itertools.permutations(right):
                    if places != right:
                        self.judged(off, (word, places), False)
                for places in ((), right[:-1], right[1:], right + (k,), right + (0,), right + right, right[:1]):
                    self.judged(off, (word, places), False)
                for j in range(k):
                    for number in (j - many, j - k, -1, many, many + j, k * many + j, FAR, -FAR, FARTHEST, -FARTHEST,
                                   (j + 1) % k):
                        self.judged(off, (word, with_number(right, j, number)), False)

    def test_places_that_are_not_enough(self):
        # Place 2 asks more of rest 0 than place 0 does; just with it none fits.
        line = (2, (6, 7), (2, 3, 5), (9, 9, 9))
        self.judged(line, ("low", (2, 1)), True)
        self.judged(line, ("low", (0, 1)), False)
        line = (2, (8, 9), (0, 0, 0), (9, 3, 5))
        self.judged(line, ("high", (2, 1)), True)
        self.judged(line, ("high", (0, 1)), False)

    def test_no_paper_where_a_row_fits(self):
        for line in small_lines(37, 20, 3):
            if all_rows(line):
                many = len(line[2])
                for a, b in itertools.product(range(many), repeat=2):
                    self.judged(line, ("clash", a, b), False)
                rests = [range(j, many, line[0]) for j in range(line[0])]
                for places in itertools.product(*rests):
                    self.judged(line, ("low", places), False)
                    self.judged(line, ("high", places), False)

    def test_other_papers_beside_the_told_one(self):
        # A clash in rest 0, and a low, or a high, besides.
        line = (2, (0, 0), (5, 5, -9), (9, 9, -5))
        self.judged(line, ("clash", 0, 2), True)
        self.judged(line, ("low", (0, 1)), True)
        self.judged(line, ("low", (2, 1)), False)
        self.judged(line, ("high", (2, 1)), False)
        line = (2, (0, 0), (-9, -9, 5), (-5, -5, 9))
        self.judged(line, ("clash", 2, 0), True)
        self.judged(line, ("high", (0, 1)), True)

    def test_great_papers(self):
        for line in great_lines():
            k, sums, least, greatest = line
            places = tuple(range(k))
            for word, bounds, step in (("low", least, -1), ("high", greatest, 1)):
                total = sum(bounds[p] - direct_more(line, p) for p in places)
                for more, wanted in ((0, False), (step, True), (-step, False), (step * FAR, True)):
                    other = (k, tuple(s + total + more - sums[0] for s in sums), least, greatest)
                    self.assertIs(few_steps(line_right, other, (word, places)), wanted)


if __name__ == "__main__":
    unittest.main()
