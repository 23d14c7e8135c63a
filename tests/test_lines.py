import itertools
import unittest

from tellsum.lines import fitted_line, mores_of, rest_spans
from tests.helpers import (
    all_rows, asked_twice, direct_more, few_steps, fits, flat, great_lines, is_least, paper_so, small_lines,
    tiny_lines, whole_rows, with_number)

FAR = 10 ** 59
WIDE = (10 ** 60 - 1) // 10


def walked_spans(line):
    """The spans, place by place."""
    k, sums, least, greatest = line
    spans = []
    for j in range(k):
        low = high = None
        for place in range(j, len(least), k):
            more = direct_more(line, place)
            if low is None or least[place] - more > low:
                low = least[place] - more
            if high is None or greatest[place] - more < high:
                high = greatest[place] - more
        spans.append((low, high))
    return spans


class Mores(unittest.TestCase):
    def test_told_by_hand(self):
        self.assertEqual(mores_of((2, (3, 5, 4), flat(4), flat(4))), [0, 0, 2, -1])
        self.assertEqual(mores_of((2, (3, 5, 4, 10), flat(5), flat(5))), [0, 0, 2, -1, 8])
        self.assertEqual(mores_of((3, (1, 4, 9), flat(5), flat(5))), [0, 0, 0, 3, 5])
        self.assertEqual(mores_of((4, (1, 4, 9, 2, 0, 7), flat(9), flat(9))), [0, 0, 0, 0, 3, 5, -7, -2, 10])
        self.assertEqual(mores_of((5, (7, 6), flat(6), flat(6))), [0, 0, 0, 0, 0, -1])

    def test_one_sum(self):
        for k in (2, 3, 4, 5):
            self.assertEqual(mores_of((k, (9,), flat(k), flat(k))), [0] * k)

    def test_place_by_place_and_by_each_row(self):
        for line in small_lines(21, 30) + great_lines():
            mores = asked_twice(self, mores_of, line)
            self.assertIs(type(mores), list)
            self.assertEqual(mores, [direct_more(line, place) for place in range(len(line[2]))])
            self.assertEqual(mores[:line[0]], [0] * line[0])
        for line in small_lines(22, 30):
            for row in all_rows(line):
                self.assertEqual(mores_of(line), [row[p] - row[p % line[0]] for p in range(len(row))])

    def test_lists_are_new(self):
        line = (2, (3, 5, 4), flat(4), flat(4))
        told = mores_of(line)
        told[0] = 77
        told.append(1)
        self.assertEqual(mores_of(line), [0, 0, 2, -1])


class Spans(unittest.TestCase):
    def test_told_by_hand(self):
        # The mores are 0, 0, 2, -1, 8.
        line = (2, (3, 5, 4, 10), (0, 0, 1, -2, 9), (9, 8, 10, 3, 15))
        self.assertEqual(rest_spans(line), [(1, 7), (0, 4)])
        self.assertEqual(rest_spans((3, (6,), (0, 1, 2), (3, 4, 2))), [(0, 3), (1, 4), (2, 2)])

    def test_first_above_second(self):
        line = (2, (0, 5), (0, 0, 0), (3, 3, 3))
        self.assertEqual(rest_spans(line), [(0, -2), (0, 3)])
        line = (2, (5, 0), (0, 0, 0), (3, 3, 3))
        self.assertEqual(rest_spans(line), [(5, 3), (0, 3)])

    def test_place_by_place(self):
        apart = 0
        for line in small_lines(23, 40) + tiny_lines() + great_lines():
            spans = asked_twice(self, rest_spans, line)
            self.assertIs(type(spans), list)
            for pair in spans:
                whole_rows(self, pair, 1)
                apart += pair[0] > pair[1]
            self.assertEqual(spans, walked_spans(line))
            self.assertEqual(len(spans), line[0])
        self.assertGreater(apart, 20)

    def test_lists_are_new(self):
        line = (2, (3,), (0, 1), (4, 5))
        told = rest_spans(line)
        told[0] = (7, 7)
        told.append((1, 1))
        self.assertEqual(rest_spans(line), [(0, 4), (1, 5)])


class Fitted(unittest.TestCase):
    def judged(self, line):
        """What is told, after the least of all rows or the paper has been walked."""
        told = asked_twice(self, fitted_line, line)
        self.assertIs(type(told), tuple)
        rows = all_rows(line)
        if rows:
            self.assertEqual(told, ("row", rows[0]))
            whole_rows(self, told[1], 1)
        else:
            self.assertIn(told[0], ("clash", "low", "high"))
            self.assertEqual(len(told), 3 if told[0] == "clash" else 2)
            if told[0] == "clash":
                whole_rows(self, told[1:], 1)
            else:
                whole_rows(self, told[1], 1)
            self.assertTrue(paper_so(line, told), (line, told))
        return told[0]

    def test_small_lines(self):
        for k in (2, 3, 4, 5):
            seen = {"row": 0, "clash": 0, "low": 0, "high": 0}
            for line in small_lines(24, 300):
                if line[0] == k:
                    seen[self.judged(line)] += 1
            self.assertGreater(min(seen.values()), 3, seen)

    def test_tiny_lines(self):
        seen = {"row": 0, "clash": 0, "low": 0, "high": 0}
        for line in tiny_lines():
            seen[self.judged(line)] += 1
        self.assertGreater(min(seen.values()), 10, seen)

    def test_row_by_hand(self):
        self.assertEqual(fitted_line((2, (3, 5), (0, 0, 0), (3, 3, 3))), ("row", (0, 3, 2)))
        self.assertEqual(fitted_line((2, (3, 5), (0, 0, 0), (3, 2, 3))), ("row", (1, 2, 3)))
        self.assertEqual(fitted_line((3, (6,), (0, 0, 0), (4, 4, 4))), ("row", (0, 2, 4)))
        self.assertEqual(fitted_line((3, (10,), (0, 0, 0), (4, 4, 4))), ("row", (2, 4, 4)))
        self.assertEqual(fitted_line((5, (0,), flat(5, -1), flat(5, 1))), ("row", (-1, -1, 0, 1, 1)))

    def test_clash_by_one_and_just_not(self):
        # The mores are 0, 0, 4: place 2 has 4 more than place 0.
        self.assertEqual(fitted_line((2, (0, 4), (0, -9, 0), (2, 9, 3))), ("clash", 0, 2))
        self.assertEqual(fitted_line((2, (0, 4), (0, -9, 0), (2, 9, 4))), ("row", (0, 0, 4)))
        self.assertEqual(fitted_line((2, (4, 0), (0, -9, 0), (3, 9, 5))), ("clash", 2, 0))
        self.assertEqual(fitted_line((2, (4, 0), (0, -9, 0), (4, 9, 5))), ("row", (4, 0, 0)))
        # A clash of two places neither of which is the first of its rest.
        line = (2, (0, 0, 0, 0), (-9, -9, 1, -9, -9), (9, 9, 9, 9, 0))
        self.assertEqual(fitted_line(line), ("clash", 2, 4))

    def test_clash_of_each_rest(self):
        for k in (2, 3, 4, 5):
            many = 3 * k
            for a, b in itertools.product(range(many), repeat=2):
                least = with_number(flat(many, -50), a, 1)
                greatest = with_number(flat(many, 50), b, 0)
                if a != b:
                    told = fitted_line((k, flat(many - k + 1), least, greatest))
                    self.assertEqual(told == ("clash", a, b), a % k == b % k)
                    self.assertEqual(told[0] == "row", a % k != b % k)

    def test_low_by_one_and_just_not(self):
        self.assertEqual(fitted_line((2, (4,), (2, 3), (9, 9))), ("low", (0, 1)))
        self.assertEqual(fitted_line((2, (5,), (2, 3), (9, 9))), ("row", (2, 3)))
        # Mores 0, 0, 1: place 2 asks 4 of place 0.
        self.assertEqual(fitted_line((2, (6, 7), (2, 3, 5), (9, 9, 9))), ("low", (2, 1)))
        self.assertEqual(fitted_line((2, (7, 8), (2, 3, 5), (9, 9, 9))), ("row", (4, 3, 5)))
        self.assertEqual(fitted_line((3, (0, 0), (0, 0, 0, 1), (9, 9, 9, 9))), ("low", (3, 1, 2)))
        self.assertEqual(fitted_line((3, (1, 1), (0, 0, 0, 1), (9, 9, 9, 9))), ("row", (1, 0, 0, 1)))
        self.assertEqual(fitted_line((5, (-1,), flat(5), flat(5, 9))), ("low", (0, 1, 2, 3, 4)))
        self.assertEqual(fitted_line((5, (0,), flat(5), flat(5, 9))), ("row", flat(5)))

    def test_high_by_one_and_just_not(self):
        self.assertEqual(fitted_line((2, (6,), (0, 0), (2, 3))), ("high", (0, 1)))
        self.assertEqual(fitted_line((2, (5,), (0, 0), (2, 3))), ("row", (2, 3)))
        # Mores 0, 0, 1: place 2 lets place 0 have 4.
        self.assertEqual(fitted_line((2, (8, 9), (0, 0, 0), (9, 3, 5))), ("high", (2, 1)))
        self.assertEqual(fitted_line((2, (7, 8), (0, 0, 0), (9, 3, 5))), ("row", (4, 3, 5)))
        self.assertEqual(fitted_line((4, (17, 17), flat(5), (9, 5, 4, 4, 3))), ("high", (4, 1, 2, 3)))
        self.assertEqual(fitted_line((4, (16, 16), flat(5), (9, 5, 4, 4, 3))), ("row", (3, 5, 4, 4, 3)))
        self.assertEqual(fitted_line((5, (46,), flat(5), flat(5, 9))), ("high", (0, 1, 2, 3, 4)))
        self.assertEqual(fitted_line((5, (45,), flat(5), flat(5, 9))), ("row", flat(5, 9)))

    def test_great_lines(self):
        for line in great_lines():
            told = few_steps(fitted_line, line)
            self.assertEqual(told, asked_twice(self, fitted_line, line))
            self.assertEqual(told[0], "row")
            self.assertTrue(fits(line, told[1]))
            self.assertTrue(is_least(line, told[1]))

    def test_great_lines_that_none_fits(self):
        for line in great_lines():
            k, sums, least, greatest = line
            spans = walked_spans(line)
            low, high = sum(span[0] for span in spans), sum(span[1] for span in spans)
            for total, word in ((low - 1, "low"), (low, "row"), (high, "row"), (high + 1, "high")):
                # All sums go up alike: the mores stay.
                moved = tuple(number + total - sums[0] for number in sums)
                told = few_steps(fitted_line, (k, moved, least, greatest))
                self.assertEqual(told[0], word)
                if word == "row":
                    self.assertTrue(fits((k, moved, least, greatest), told[1]))
                else:
                    self.assertTrue(paper_so((k, moved, least, greatest), told))
            last = len(least) - 1
            others = range(last % k, last, k)
            edge = min(greatest[p] - direct_more(line, p) for p in others) + direct_more(line, last)
            for number in (edge, edge + 1):
                raised = (k, sums, with_number(least, last, number), with_number(greatest, last, edge + 1))
                told = few_steps(fitted_line, raised)
                self.assertEqual(told[0] == "clash", number > edge)
                if number > edge:
                    self.assertTrue(paper_so(raised, told))

    def test_wide_bounds(self):
        for k in (2, 3, 4, 5):
            line = (k, flat(25 - k, 1), flat(24, -WIDE), flat(24, WIDE))
            told = few_steps(fitted_line, line)
            self.assertEqual(told[0], "row")
            self.assertTrue(fits(line, told[1]))
            self.assertTrue(is_least(line, told[1]))
            line = (k, flat(25 - k, 6 * FAR), flat(24, -FAR), flat(24, FAR))
            self.assertEqual(few_steps(fitted_line, line)[0], "high")
            line = (k, flat(25 - k, -6 * FAR), flat(24, -FAR), flat(24, FAR))
            self.assertEqual(few_steps(fitted_line, line)[0], "low")

    def test_told_numbers_are_right_for_all_rows_at_24_places(self):
        for k in (2, 3, 4, 5):
            row = tuple(place * place % 11 for place in range(24))
            least = tuple(number - 1 for number in row)
            greatest = tuple(number + 1 for number in row)
            sums = tuple(sum(row[i:i + k]) for i in range(25 - k))
            self.assertEqual(self.judged((k, sums, least, greatest)), "row")


if __name__ == "__main__":
    unittest.main()
