import itertools
import random
import unittest

from tellsum.errors import BadTelling, NoText
from tellsum.texts import line_text, read_line, read_row, row_text
from tests.helpers import asked_twice, few_steps, great_lines, refused_alone, small_lines, tiny_lines, whole_rows

FAR = 10 ** 60 - 1

# What is no number so written.
NO_NUMBERS = (
    "", "-", "00", "01", "007", "-0", "-00", "-01", "--1", "+1", "+0", "1-", "1.0", "1,0", "1_0", "1e3", "0x1", "a",
    "1a", "a1", "#", "~", "!", "(1)", "1" + "0" * 60, "-1" + "0" * 60, "9" * 61, "-" + "9" * 61, "9" * 300, "0" * 61,
    "1\n", "\n1", "\n", "1\n2", "-\n1", "1:", "1|", "|", ":", "True", "None", "'1'")
# What is no row so written, though it has blanks where there might be some.
NO_ROWS = (" ", "  ", " 1", "1 ", "1  2", "1 2 ", " 1 2", "1 2\n", "1\n2 3", "1 2\n3", "1, 2", "1,2", "1 | 2", "2: 1",
           "1 2 x", "x 1 2", "1 -0 2", "1 +2", "1 02", "- 1", "1 -", "1" + " 1" * 24, " ".join(["0"] * 40),
           "1 " + "9" * 61)


class Rows(unittest.TestCase):
    def both_ways(self, row, text):
        self.assertEqual(asked_twice(self, row_text, tuple(row)), text)
        self.assertEqual(asked_twice(self, row_text, list(row)), text)
        told = asked_twice(self, read_row, text)
        whole_rows(self, told, 1)
        self.assertEqual(told, tuple(row))

    def test_by_hand(self):
        self.both_ways([0], "0")
        self.both_ways([1, -2, 0, 30], "1 -2 0 30")
        self.both_ways([-10], "-10")
        self.both_ways([FAR, -FAR], "9" * 60 + " -" + "9" * 60)
        self.both_ways([0] * 24, "0" + " 0" * 23)
        self.both_ways([10 ** 59], "1" + "0" * 59)

    def test_written_and_read_back(self):
        chance = random.Random(371)
        for many, far in itertools.product(range(1, 25), (1, 20, FAR)):
            row = [chance.randint(-far, far) for place in range(many)]
            self.both_ways(row, " ".join(str(number) for number in row))
            few_steps(read_row, row_text(row))

    def test_each_small_number(self):
        for number in range(-120, 121):
            self.both_ways([number], str(number))

    def test_each_length_of_figures(self):
        for figures in range(1, 61):
            self.both_ways([10 ** figures - 1, -10 ** (figures - 1)], "9" * figures + " -1" + "0" * (figures - 1))

    def test_no_rows(self):
        for text in NO_NUMBERS + NO_ROWS:
            refused_alone(self, NoText, read_row, text)

    def test_one_word_that_is_no_number(self):
        for text, place in itertools.product(NO_NUMBERS, (0, 1, 2)):
            words = ["1", "-2", "3"]
            words[place] = text
            refused_alone(self, NoText, read_row, " ".join(words))

    def test_each_sign(self):
        # Of all signs that a text may have only figures make a number.
        for sign in [chr(code) for code in range(32, 127) if code != 37] + ["\n"]:
            if sign in "0123456789":
                self.assertEqual(read_row("4" + sign), (int("4" + sign),))
            else:
                refused_alone(self, NoText, read_row, "4" + sign)
                refused_alone(self, NoText, read_row, "3 4" + sign)
            if sign not in "-0123456789":
                refused_alone(self, NoText, read_row, sign + "4")


class Lines(unittest.TestCase):
    def both_ways(self, line, text):
        self.assertEqual(asked_twice(self, line_text, line), text)
        told = asked_twice(self, read_line, text)
        self.assertIs(type(told), tuple)
        whole_rows(self, told[0], 0)
        whole_rows(self, told[1:], 2)
        self.assertEqual(told, line)

    def test_by_hand(self):
        self.both_ways((2, (0,), (0, 0), (0, 0)), "2: 0 | 0 0 | 0 0")
        self.both_ways((3, (4, -5), (-1, 0, 2, -3), (7, 0, 2, 30)), "3: 4 -5 | -1 0 2 -3 | 7 0 2 30")

    def test_written_and_read_back(self):
        for line in small_lines(372, 40) + tiny_lines() + great_lines():
            k, sums, least, greatest = line
            parts = [" ".join(str(number) for number in row) for row in (sums, least, greatest)]
            self.both_ways(line, f"{k}: {parts[0]} | {parts[1]} | {parts[2]}")

    def test_few_steps(self):
        for line in great_lines():
            self.assertEqual(few_steps(read_line, few_steps(line_text, line)), line)

    def test_not_so_written(self):
        for text in (
                "", " ", "2", "2:", "2: ", "2: 0", "2: 0 | 0 0", "2: 0 | 0 0 |", "2: 0 | 0 0 | ",
                "2: 0 | 0 0 | 0 0 | 0",
                "2: 0 | 0 0 | 0 0 | ", "2: 0 | 0 0 | 0 0 |", "2:0 | 0 0 | 0 0", "2 : 0 | 0 0 | 0 0", "2 0 | 0 0 | 0 0",
                ": 0 | 0 0 | 0 0", " 2: 0 | 0 0 | 0 0", "2: 0 | 0 0 | 0 0 ", "2:  0 | 0 0 | 0 0", "2: 0  | 0 0 | 0 0",
                "2: 0 |  0 0 | 0 0", "2: 0| 0 0 | 0 0", "2: 0 |0 0 | 0 0", "2: 0|0 0|0 0", "2: 0 | 0  0 | 0 0",
                "2: 0 | 0 0 | 0 0\n", "\n2: 0 | 0 0 | 0 0", "2:\n0 | 0 0 | 0 0", "2: 0 | 0\n0 | 0 0",
                "2: 0 | 0 0 | 0 0: ",
                "2: 2: 0 | 0 0 | 0 0", "2: 0: 0 | 0 0 | 0 0", "2; 0 | 0 0 | 0 0", "2: 0 / 0 0 / 0 0",
                "2: 0 || 0 0 | 0 0",
                "2: 0 | | 0 0", "2:  | 0 0 | 0 0", "2: | 0 0 | 0 0", "2: 0 |  | 0 0", "2: 0 | 0 0 |  ",
                "2: 0 , 0 0 , 0 0",
                "2.0: 0 | 0 0 | 0 0", "02: 0 | 0 0 | 0 0", "+2: 0 | 0 0 | 0 0", "-0: 0 | 0 0 | 0 0", "k: 0 | 0 0 | 0 0",
                "2 2: 0 | 0 0 | 0 0", "(2, (0,), (0, 0), (0, 0))", "0 | 0 0 | 0 0", "2: 0 | 0 0 | 0 0 x"):
            refused_alone(self, NoText, read_line, text)

    def test_no_numbers_in_each_part(self):
        for text in NO_NUMBERS:
            for wrong in (f"{text}: 0 | 0 0 | 0 0", f"2: {text} | 0 0 | 0 0", f"2: 0 | {text} 0 | 0 0",
                          f"2: 0 | 0 {text} | 0 0", f"2: 0 | 0 0 | {text} 0", f"2: 0 | 0 0 | 0 {text}"):
                refused_alone(self, NoText, read_line, wrong)

    def test_more_than_24_numbers(self):
        # Such a row is not so written, whatever the line would be.
        many = " ".join(["0"] * 25)
        fewer = " ".join(["0"] * 24)
        for text in (f"2: {many} | 0 0 | 0 0", f"2: 0 | {many} | 0 0", f"2: 0 | 0 0 | {many}",
                     f"2: {fewer} | {many} | {many}",
                     f"9: {many} | {many} | {many}"):
            refused_alone(self, NoText, read_line, text)
        refused_alone(self, BadTelling, read_line, f"2: {fewer} | {fewer} | {fewer}")
        self.assertEqual(read_line(f"2: {fewer[2:]} | {fewer} | {fewer}"), (2, (0,) * 23, (0,) * 24, (0,) * 24))

    def test_no_line(self):
        for text in (
                "1: 0 | 0 | 0", "1: 0 0 | 0 0 | 0 0", "6: 0 | 0 0 0 0 0 0 | 0 0 0 0 0 0", "0: 0 | 0 | 0",
                "-2: 0 | 0 0 | 0 0",
                "9" * 60 + ": 0 | 0 0 | 0 0", "-" + "9" * 60 + ": 0 | 0 0 | 0 0", "2: 0 | 1 0 | 0 0",
                "2: 0 | 0 1 | 0 0",
                "2: 0 | 0 0 | 0 -1", "2: 0 | 0 0 | -1 0", "2: 0 | 0 | 0", "2: 0 | 0 0 0 | 0 0 0", "2: 0 | 0 0 | 0 0 0",
                "2: 0 | 0 0 0 | 0 0", "2: 0 0 | 0 0 | 0 0", "3: 0 | 0 0 | 0 0", "5: 0 0 | 0 0 0 0 0 | 0 0 0 0 0"):
            refused_alone(self, BadTelling, read_line, text)

    def test_not_so_written_comes_first(self):
        for text in ("1: 0 | 0 | 0 ", "6: 0 | 0 | x", "2: 0 | 1 0 | 0 -0", "2: 00 | 1 0 | 0 0", "7: 0 | 0 0",
                     "1:0 | 0 | 0"):
            refused_alone(self, NoText, read_line, text)


if __name__ == "__main__":
    unittest.main()
