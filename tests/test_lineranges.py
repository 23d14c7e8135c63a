import unittest

from tellsum.errors import NoFit, NoPlace
from tellsum.lineranges import line_range, sure_places
from tests.helpers import (
    all_rows, asked_twice, few_steps, fits, flat, great_lines, moved, refused_alone, small_lines, tiny_lines,
    whole_rows)

FAR = 10 ** 60 - 1
FARTHEST = 10 ** 5000


class Ranges(unittest.TestCase):
    def judged(self, line, rows):
        for place in range(len(line[2])):
            told = asked_twice(self, line_range, line, place)
            whole_rows(self, told, 2)
            self.assertEqual(len(told), 2)
            self.assertIn(told[0], rows)
            self.assertIn(told[1], rows)
            self.assertEqual(told[0][place], min(row[place] for row in rows))
            self.assertEqual(told[1][place], max(row[place] for row in rows))

    def test_small_lines(self):
        some = 0
        for line in small_lines(51, 80) + tiny_lines():
            rows = all_rows(line)
            if rows:
                self.judged(line, rows)
                some += 1
            else:
                for place in range(len(line[2])):
                    refused_alone(self, NoFit, line_range, line, place)
        self.assertGreater(some, 300)

    def test_by_hand(self):
        line = (2, (3, 5), (0, 0, 0), (3, 3, 3))
        for place in range(3):
            self.assertEqual(set(line_range(line, place)), {(0, 3, 2), (1, 2, 3)})
        self.assertEqual([row[0] for row in line_range(line, 0)], [0, 1])
        self.assertEqual([row[1] for row in line_range(line, 1)], [2, 3])

    def test_what_is_no_place(self):
        for line in small_lines(52, 12, 4):
            many = len(line[2])
            for number in (-1, -2, -many, -many - 1, many, many + 1, 24, FAR, -FAR, FARTHEST, -FARTHEST):
                # The same where no row fits: among these lines there are such.
                refused_alone(self, NoPlace, line_range, line, number)

    def test_no_place_comes_ahead_of_no_fit(self):
        line = (2, (9,), (0, 0), (1, 1))
        refused_alone(self, NoPlace, line_range, line, 2)
        refused_alone(self, NoPlace, line_range, line, -1)
        refused_alone(self, NoFit, line_range, line, 1)
        refused_alone(self, NoFit, line_range, line, 0)

    def test_great_lines(self):
        for line in great_lines():
            k = line[0]
            for place in range(24):
                low, high = few_steps(line_range, line, place)
                self.assertTrue(fits(line, low) and fits(line, high))
                self.assertLess(low[place], high[place])
                # No exchange with another rest leads further: so no row does.
                for other in range(k):
                    if other != place % k:
                        self.assertFalse(fits(line, moved(low, k, place % k, other)))
                        self.assertFalse(fits(line, moved(high, k, other, place % k)))


class SurePlaces(unittest.TestCase):
    def alike(self, rows):
        return [place for place in range(len(rows[0])) if len({row[place] for row in rows}) == 1]

    def test_small_lines(self):
        seen = {"all": 0, "some": 0, "none": 0}
        for line in small_lines(53, 100) + tiny_lines():
            rows = all_rows(line)
            if not rows:
                refused_alone(self, NoFit, sure_places, line)
                continue
            told = asked_twice(self, sure_places, line)
            self.assertIs(type(told), list)
            self.assertEqual(told, self.alike(rows))
            seen["all" if len(told) == len(line[2]) else "some" if told else "none"] += 1
        self.assertGreater(min(seen.values()), 20, seen)

    def test_by_hand(self):
        self.assertEqual(sure_places((3, (2, 2), (0, 1, 0, 0), (9, 1, 9, 9))), [1])
        self.assertEqual(sure_places((3, (2, 2), (0, 0, 0, 0), (9, 9, 0, 0))), [0, 1, 2, 3])
        self.assertEqual(sure_places((2, (2, 2, 2), flat(4), flat(4, 2))), [])
        # All at their lows, all at their highs: no room, however wide the bounds are.
        self.assertEqual(sure_places((4, (0,), flat(4), flat(4, FAR))), [0, 1, 2, 3])
        self.assertEqual(sure_places((4, (8,), flat(4, -FAR), flat(4, 2))), [0, 1, 2, 3])
        # One rest alone has room within its span.
        self.assertEqual(sure_places((2, (5,), (0, 3), (9, 3))), [0, 1])

    def test_the_list_is_the_askers_own(self):
        line = (3, (2, 2), (0, 1, 0, 0), (9, 1, 9, 9))
        told = sure_places(line)
        told.append(7)
        self.assertEqual(sure_places(line), [1])

    def test_great_lines(self):
        for line in great_lines():
            self.assertEqual(few_steps(sure_places, line), [])
            row = line_range(line, 5)[0]
            self.assertEqual(few_steps(sure_places, (line[0], line[1], row, row)), list(range(24)))


if __name__ == "__main__":
    unittest.main()
