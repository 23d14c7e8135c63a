import itertools
import random
import unittest

from tellsum.desk import Desk
from tellsum.errors import BadTelling, NoFit, NoNumber, NoPast, NoPlace, NoRow, NotTwos, NoText
from tellsum.leastchange import line_change
from tellsum.linecounts import line_at, line_many, line_number
from tellsum.lineranges import line_range
from tellsum.lines import fitted_line
from tellsum.off import line_off
from tellsum.twos import twos_wrong
from tests.helpers import all_rows, few_steps, great_line, great_lines, small_lines, tiny_lines, with_number
from tests.wronghelpers import great_off_lines, off_lines

FAR = 10 ** 60 - 1
FIRST = "2: 0 | 0 0 | 0 0"
FIRST_LINE = (2, (0,), (0, 0), (0, 0))


def words_of(numbers):
    return " ".join(str(number) for number in numbers)


def written(line):
    return f"{line[0]}: {words_of(line[1])} | {words_of(line[2])} | {words_of(line[3])}"


def fits_words(line):
    told = fitted_line(line)
    if told[0] == "row":
        return words_of(told[1])
    if told[0] == "clash":
        return f"clash {told[1]} {told[2]}"
    return f"{told[0]} {words_of(told[1])}"


def desk_of(line):
    desk = Desk()
    desk.say("line " + written(line))
    return desk


class DeskCase(unittest.TestCase):
    def said(self, desk, row, wanted):
        told = desk.say(row)
        self.assertIs(type(told), str)
        self.assertEqual(told, wanted, row)

    def refused(self, desk, error, row):
        """The refusal is of just this class, and the desk has the line it had."""
        before = desk.say("show")
        with self.assertRaises(error) as caught:
            desk.say(row)
        self.assertIs(type(caught.exception), error, row)
        self.assertEqual(desk.say("show"), before)

    def refused_all(self, desk, error, rows):
        """Each is refused, and behind all of them the last deeds that stand are those that stood before."""
        before = desk.say("show")
        self.said(desk, "line 3: 7 | 1 2 3 | 4 5 6", "ok")
        self.said(desk, "line " + before, "ok")
        for row in rows:
            self.refused(desk, error, row)
        self.said(desk, "back", "ok")
        self.said(desk, "show", "3: 7 | 1 2 3 | 4 5 6")
        self.said(desk, "back", "ok")
        self.said(desk, "show", before)


class Questions(DeskCase):
    def answers(self, line):
        desk = desk_of(line)
        self.said(desk, "show", written(line))
        self.said(desk, "fits", fits_words(line))
        self.said(desk, "many", str(line_many(line)))
        self.said(desk, "change", str(line_change(line)[0]))
        self.said(desk, "off", str(line_off(line)[0]))
        if line[0] == 2:
            self.said(desk, "wrong", str(len(twos_wrong(line)[0])))
        else:
            self.refused(desk, NotTwos, "wrong")
        for place in range(len(line[2])):
            if line_many(line) == 0:
                self.refused(desk, NoFit, f"range {place}")
            else:
                low, high = line_range(line, place)
                self.said(desk, f"range {place}", f"{low[place]} {high[place]}")
        # None of these was a deed.
        self.said(desk, "back", "ok")
        self.said(desk, "show", FIRST)
        self.refused(desk, NoPast, "back")

    def test_as_the_functions_tell(self):
        for line in small_lines(381, 15) + off_lines(382, 3, 5) + tiny_lines()[:300] + great_off_lines(383):
            self.answers(line)

    def test_numbers_of_rows(self):
        for line in small_lines(384, 10, 4):
            desk = desk_of(line)
            rows = all_rows(line)
            self.said(desk, "many", str(len(rows)))
            for number, row in enumerate(rows):
                self.said(desk, f"at {number}", words_of(row))
                self.said(desk, f"number {words_of(row)}", str(number))
            for number in (-1, -FAR, len(rows), len(rows) + 1, FAR):
                self.refused(desk, NoNumber, f"at {number}")
            for place in range(len(line[2])):
                if rows:
                    at_place = [row[place] for row in rows]
                    self.said(desk, f"range {place}", f"{min(at_place)} {max(at_place)}")

    def test_rows_that_do_not_fit(self):
        for line in small_lines(385, 6, 4):
            desk = desk_of(line)
            rows = all_rows(line)
            wrong = [(0,), tuple(range(24)), (FAR,) * len(line[2]), line[2][:-1], line[2] + (0,)]
            for row in rows[:3]:
                wrong += [with_number(row, place, row[place] + 1) for place in range(len(row))]
                wrong += [row[:-1], row + (0,)]
            for row in wrong:
                self.refused(desk, NoFit, f"number {words_of(row)}")

    def test_great_numbers(self):
        for line in great_lines():
            desk = desk_of(line)
            many = few_steps(desk.say, "many")
            self.assertEqual(many, str(line_many(line)))
            for number in (0, 1, 10 ** 50, min(line_many(line), FAR) - 1):
                row = few_steps(desk.say, f"at {number}")
                self.assertEqual(row, words_of(line_at(line, number)))
                self.assertEqual(few_steps(desk.say, "number " + row), str(number))
            self.assertEqual(str(line_number(line, line_at(line, line_many(line) - 1))),
                             desk.say("number " + words_of(line_at(line, line_many(line) - 1))))
            for row in ("show", "fits", "change", "off", "range 23"):
                few_steps(desk.say, row)

    def test_by_hand(self):
        desk = Desk()
        for row, wanted in (
                ("show", FIRST), ("fits", "0 0"), ("many", "1"), ("at 0", "0 0"), ("number 0 0", "0"),
                ("range 1", "0 0"),
                ("change", "0"), ("off", "0"), ("wrong", "0"), ("line 2: 3 5 | 0 0 0 | 3 3 3", "ok"), ("fits", "0 3 2"),
                ("many", "2"), ("at 1", "1 2 3"), ("number 1 2 3", "1"), ("range 0", "0 1"), ("sum 1 9", "ok"),
                ("show", "2: 3 9 | 0 0 0 | 3 3 3"), ("many", "0"), ("change", "3"), ("off", "3"), ("wrong", "1"),
                ("least 0 -4", "ok"), ("greatest 2 9", "ok"), ("show", "2: 3 9 | -4 0 0 | 3 3 9"), ("fits", "0 3 6"),
                ("back", "ok"), ("show", "2: 3 9 | -4 0 0 | 3 3 3"), ("back", "ok"), ("back", "ok"), ("fits", "0 3 2"),
                ("back", "ok"), ("show", FIRST)):
            self.said(desk, row, wanted)
        self.said(desk_of((2, (4,), (2, 3), (9, 9))), "fits", "low 0 1")
        self.said(desk_of((2, (9,), (0, 0), (1, 3))), "fits", "high 0 1")
        self.said(desk_of((2, (0, 9), (0, 0, 0), (3, 3, 3))), "fits", "clash 0 2")


class Deeds(DeskCase):
    def test_at_first(self):
        desk = Desk()
        self.said(desk, "show", FIRST)
        self.refused(desk, NoPast, "back")
        self.said(desk, "show", FIRST)

    def test_each_sum_and_each_bound(self):
        line = (3, (4, 5, 6), (0, 1, 2, 3, 4), (10, 11, 12, 13, 14))
        for number in (0, -7, 2, FAR, -FAR):
            for i in range(3):
                desk = desk_of(line)
                self.said(desk, f"sum {i} {number}", "ok")
                self.said(desk, "show", written((3, with_number(line[1], i, number), line[2], line[3])))
            for place in range(5):
                for word, row, fits in (("least", 2, number <= line[3][place]),
                                        ("greatest", 3, number >= line[2][place])):
                    desk = desk_of(line)
                    if not fits:
                        self.refused(desk, BadTelling, f"{word} {place} {number}")
                        continue
                    self.said(desk, f"{word} {place} {number}", "ok")
                    bounds = with_number(line[row], place, number)
                    self.said(desk, "show", written(line[:row] + (bounds,) + line[row + 1:]))

    def test_a_bound_as_far_as_the_other_one(self):
        desk = desk_of((2, (0,), (-3, -3), (5, 5)))
        self.refused(desk, BadTelling, "least 0 6")
        self.refused(desk, BadTelling, "greatest 1 -4")
        self.said(desk, "least 0 5", "ok")
        self.said(desk, "greatest 1 -3", "ok")
        self.said(desk, "show", "2: 0 | 5 -3 | 5 -3")

    def test_deeds_that_change_nothing_stand_too(self):
        desk = Desk()
        rows = ("sum 0 0", "least 1 0", "greatest 0 0", "line " + FIRST)
        for row in rows:
            self.said(desk, row, "ok")
        for row in rows:
            self.said(desk, "back", "ok")
        self.refused(desk, NoPast, "back")

    def test_200_deeds(self):
        desk = Desk()
        for number in range(200):
            self.said(desk, f"sum 0 {number + 1}", "ok")
        for number in range(200, 0, -1):
            self.said(desk, "show", f"2: {number} | 0 0 | 0 0")
            self.said(desk, "back", "ok")
        self.said(desk, "show", FIRST)
        self.refused(desk, NoPast, "back")
        self.said(desk, "sum 0 4", "ok")
        self.said(desk, "show", "2: 4 | 0 0 | 0 0")

    def test_long_talks(self):
        chance = random.Random(386)
        lines = small_lines(387, 20)
        for turn in range(12):
            desk, past, line = Desk(), [], FIRST_LINE
            for step in range(80):
                word = chance.choice(("line", "sum", "sum", "least", "least", "greatest", "greatest", "back", "back"))
                place, number = chance.randint(-1, len(line[2])), chance.randint(-6, 6)
                other, error = line, None
                if word == "line":
                    other = chance.choice(lines)
                    row = "line " + written(other)
                elif word == "back":
                    row = "back"
                    error = None if past else NoPast
                elif place not in range(len(line[1 if word == "sum" else 2])):
                    row, error = f"{word} {place} {number}", NoPlace
                else:
                    row, at = f"{word} {place} {number}", ("", "sum", "least", "greatest").index(word)
                    other = line[:at] + (with_number(line[at], place, number),) + line[at + 1:]
                    if other[2][place] > other[3][place]:
                        error = BadTelling
                if error:
                    self.refused(desk, error, row)
                    continue
                self.said(desk, row, "ok")
                if word == "back":
                    line = past.pop()
                else:
                    past.append(line)
                    line = other
                self.said(desk, "show", written(line))
                self.said(desk, "fits", fits_words(line))
            while past:
                self.said(desk, "back", "ok")
                self.said(desk, "show", written(past.pop()))

    def test_two_desks_side_by_side(self):
        first, second = Desk(), Desk()
        self.said(first, "sum 0 5", "ok")
        self.said(second, "show", FIRST)
        self.refused(second, NoPast, "back")
        self.said(second, "line 3: 1 | 0 0 0 | 1 1 1", "ok")
        self.said(first, "show", "2: 5 | 0 0 | 0 0")
        self.said(first, "back", "ok")
        self.said(second, "many", "3")


class Refusals(DeskCase):
    def desks(self):
        """A new desk, one with a line that rows fit, one with a line by 3 that none fits."""
        return [Desk(), desk_of((2, (3, 5), (0, 0, 0), (3, 3, 3))), desk_of((3, (9, 0), (0,) * 4, (1,) * 4))]

    def test_other_words_more_or_fewer(self):
        rows = ["", "hello", "Show", "SHOW", "shows", "sho", "lines", "Line " + FIRST, "fit", "row 0", "0", "ok",
                "line",
                "number", "sum", "sum 0", "sum 0 0 0", "least", "least 0", "least 0 0 0", "greatest", "greatest 0",
                "greatest 0 0 0", "at", "at 0 0", "range", "range 0 0", "least 0 0 ok", FIRST, "show\n", "\nshow",
                "back\n",
                "sum\n0 0", "line\n" + FIRST, "#", "~"]
        for word in ("back", "show", "fits", "many", "change", "off", "wrong"):
            rows += [f"{word} 0", f"{word} {word}", f"{word} 0 0", f"{word}s", f"x{word}", f"{word}\n", f"0 {word}"]
        for desk in self.desks():
            self.refused_all(desk, NoRow, rows)

    def test_blanks(self):
        rows = [" ", "  "]
        for row in ("show", "fits", "many", "back", "at 0", "range 0", "change", "off", "wrong", "sum 0 0", "least 0 0",
                    "greatest 0 0", "line " + FIRST, "number 0 0", "number x y", "line x y"):
            rows += [" " + row, row + " ", "  " + row, row + "  "]
            rows += [row[:i] + "  " + row[i + 1:] for i in range(len(row)) if row[i] == " "]
        rows += ["line ", "number ", "line  ", "number  ", "line  0", "sum ", "sum 0 ", "at ", "range "]
        for desk in self.desks():
            self.refused_all(desk, NoRow, rows)

    def test_no_numbers(self):
        wrong = ("x", "00", "01", "-0", "+1", "--1", "1.0", "-", "9" * 61, "-1" + "0" * 60, "1\n", "\n1", "1,", "0x0",
                 "1_0")
        rows = []
        for text in wrong:
            rows += [f"at {text}", f"range {text}"]
            for word in ("sum", "least", "greatest"):
                rows += [f"{word} {text} 0", f"{word} 0 {text}", f"{word} {text} {text}"]
        for desk in self.desks():
            self.refused_all(desk, NoRow, rows)

    def test_texts_that_are_not_so_written(self):
        lines = ["0", "x", "2:0 | 0 0 | 0 0", "2: 0 | 0 0", "2: 0 | 0 0 | 0 0 | 0", "2: 0 | 0 0 | 0 -0",
                 "02: 0 | 0 0 | 0 0",
                 "2: 0 | 0 0 | 0 0\n", "2: 0 | 0\n0 | 0 0", "2: 0 | 0 0 | 0 " + "9" * 61, "2 : 0 | 0 0 | 0 0",
                 "line " + FIRST,
                 "2: " + words_of([0] * 25) + " | 0 0 | 0 0", "2: 0|0 0|0 0", "-", "1: 0 | 0 | x", "\n"]
        numbers = ["x", "00", "-0", "+1", "1 x", "0 0\n", "1,", words_of([0] * 25), "9" * 61, "0 | 0", FIRST, "\n",
                   "number 0 0"]
        rows = [f"line {text}" for text in lines] + [f"number {text}" for text in numbers]
        for desk in self.desks():
            self.refused_all(desk, NoText, rows)

    def test_texts_that_write_no_line(self):
        rows = ["line 1: 0 | 0 | 0", "line 6: 0 | 0 0 0 0 0 0 | 0 0 0 0 0 0", "line 2: 0 | 1 0 | 0 0",
                "line 2: 0 | 0 0 | 0 -1",
                "line 2: 0 | 0 | 0", "line 2: 0 0 | 0 0 | 0 0", "line 2: 0 | 0 0 0 | 0 0", "line -2: 0 | 0 0 | 0 0",
                "line 3: 0 | 0 0 | 0 0", "line " + "9" * 60 + ": 0 | 0 0 | 0 0"]
        for desk in self.desks():
            self.refused_all(desk, BadTelling, rows)

    def test_no_place(self):
        for desk, sums, places in zip(self.desks(), (1, 2, 2), (2, 3, 4)):
            rows = []
            for i in (-1, -sums, -places, places, places + 1, 24, FAR, -FAR):
                rows += [f"least {i} 0", f"greatest {i} 0", f"range {i}", f"sum {i} 0", f"sum {i} {FAR}"]
                # The bound would pass the other one, if there were such a place.
                rows += [f"least {i} {FAR}", f"greatest {i} {-FAR}"]
            rows += [f"sum {sums} 0", f"sum {places - 1} 0"]
            self.refused_all(desk, NoPlace, rows)

    def test_bounds_that_pass(self):
        for desk, places in zip(self.desks(), (2, 3, 4)):
            rows = []
            for place in range(places):
                rows += [f"least {place} 4", f"least {place} {FAR}", f"greatest {place} -1", f"greatest {place} {-FAR}"]
            self.refused_all(desk, BadTelling, rows)

    def test_as_told(self):
        desks = self.desks()
        self.refused_all(desks[0], NoNumber, ["at 1", "at -1", f"at {FAR}", f"at {-FAR}"])
        self.refused_all(desks[1], NoNumber, ["at 2", "at -1", f"at {FAR}"])
        self.refused_all(desks[2], NoNumber, ["at 0", "at -1", "at 1"])
        self.refused_all(desks[0], NoFit, ["number 0", "number 0 1", "number 0 0 0", "number 1 -1"])
        self.refused_all(desks[1], NoFit, ["number 0", "number 0 3 3", "number 3 0 5", "number 0 3 2 0"])
        self.refused_all(desks[2], NoFit, ["number 0 0 0 0", "range 0", "range 3", "number 5"])
        self.refused_all(desks[2], NotTwos, ["wrong"])
        for k in (3, 4, 5):
            self.refused_all(desk_of(great_line(k, k)), NotTwos, ["wrong"])
        self.refused(Desk(), NoPast, "back")

    def test_the_one_told_first(self):
        none_fits = desk_of((3, (9, 0), (0,) * 4, (1,) * 4))
        for error, rows in (
                # No row, though its text is wrong, too, or its place, or nothing fits.
                (NoRow, ("line 1:  0", "line x ", "number  x", "number x ", "range 9 9", "at x", "range 4x",
                         "least 9 x",
                         "greatest x -9", "sum 9 x", "sum 9 9 9", "wrong 1", "sum 9")),
                # Not so written, though it would be no line, or fits nothing.
                (NoText, ("line 1: 0 | 0 | x", "line 9: 0 | 1 0 | 00 0", "number 9 9 x", "number -0")),
                (BadTelling, ("line 1: 0 | 0 | 0",)),
                (NoPlace, ("range 4", "range -1", "least 4 99", "greatest -1 -99", "sum 2 0")),
                (BadTelling, ("least 0 2", "greatest 3 -1"))):
            self.refused_all(none_fits, error, rows)

    def test_what_is_refused_is_no_deed(self):
        desk = Desk()
        self.said(desk, "sum 0 7", "ok")
        for row, error in (("sum 1 0", NoPlace), ("least 0 1", BadTelling), ("greatest 0 -1", BadTelling),
                           ("line x", NoText),
                           ("line 1: 0 | 0 | 0", BadTelling), ("shout", NoRow), ("at 5", NoNumber), ("range 0", NoFit),
                           ("number 9", NoFit), ("sum 0 x", NoRow)):
            self.refused(desk, error, row)
        self.said(desk, "back", "ok")
        self.said(desk, "show", FIRST)
        self.refused(desk, NoPast, "back")
        self.refused(desk, NoPast, "back")

    def test_each_short_text(self):
        # Whatever is said is answered, or refused with NoRow; none of these is a deed with an effect.
        desk = Desk()
        signs = [chr(code) for code in range(32, 127) if code != 37] + ["\n"]
        for text in itertools.chain(signs, map("".join, itertools.product(signs[:16] + ["a", "\n"], repeat=2))):
            self.refused(desk, NoRow, text)


if __name__ == "__main__":
    unittest.main()
