"""A desk that keeps a line and is told rows of words: deeds that change the line, and questions about it."""

from tellsum.errors import NoPast, NoPlace, NoRow
from tellsum.leastchange import line_change
from tellsum.linecounts import line_at, line_many, line_number
from tellsum.lineranges import line_range
from tellsum.lines import fitted_line, is_place
from tellsum.off import line_off
from tellsum.tellings import made_line
from tellsum.texts import line_text, number_of, read_line, read_row, row_text
from tellsum.twos import twos_wrong

FIRST_LINE = "2: 0 | 0 0 | 0 0"
DEEDS = ("line", "sum", "least", "greatest")
TEXT_BEHIND = ("line", "number")
NUMBERS_BEHIND = {
    "sum": 2, "least": 2, "greatest": 2, "back": 0, "show": 0, "fits": 0, "many": 0, "at": 1, "range": 1, "change": 0,
    "off": 0, "wrong": 0}


# The row's word, and a list of what stands behind it: one text or numbers.
def row_parts(row):
    words = row.split(" ")
    word = words[0]
    if "" not in words and word in TEXT_BEHIND and len(words) > 1:
        return (word, [row[len(word) + 1:]])
    numbers = [number_of(text) for text in words[1:]]
    if None in numbers or NUMBERS_BEHIND.get(word) != len(numbers):
        raise NoRow("this is no row that a desk is told")
    return (word, numbers)


def put_in(row, place, number):
    return row[:place] + (number,) + row[place + 1:]


def with_sum(line, i, number):
    if not 0 <= i < len(line[1]):
        raise NoPlace("this is no sum of the line")
    return made_line(line[0], put_in(line[1], i, number), line[2], line[3])


def with_bound(line, word, place, number):
    if not is_place(line, place):
        raise NoPlace("this is no place of the line")
    least = put_in(line[2], place, number) if word == "least" else line[2]
    greatest = put_in(line[3], place, number) if word == "greatest" else line[3]
    return made_line(line[0], line[1], least, greatest)


def line_behind(line, word, handed):
    if word == "line":
        return read_line(handed[0])
    if word == "sum":
        return with_sum(line, handed[0], handed[1])
    return with_bound(line, word, handed[0], handed[1])


def fits_text(line):
    told = fitted_line(line)
    word = told[0]
    if word == "row":
        return row_text(told[1])
    places = row_text(told[1:] if word == "clash" else told[1])
    return f"{word} {places}"


def range_text(line, place):
    return row_text([row[place] for row in line_range(line, place)])


def count_text(line, word):
    if word == "many":
        return str(line_many(line))
    if word == "change":
        return str(line_change(line)[0])
    if word == "off":
        return str(line_off(line)[0])
    return str(len(twos_wrong(line)[0]))


def answer_to(line, word, handed):
    if word == "show":
        return line_text(line)
    if word == "fits":
        return fits_text(line)
    if word == "at":
        return row_text(line_at(line, handed[0]))
    if word == "number":
        return str(line_number(line, read_row(handed[0])))
    if word == "range":
        return range_text(line, handed[0])
    return count_text(line, word)


class Desk:
    def __init__(self):
        self.line = read_line(FIRST_LINE)
        self.past = []

    def say(self, row):
        parts = row_parts(row)
        word = parts[0]
        if word == "back":
            self.go_back()
            return "ok"
        if word not in DEEDS:
            return answer_to(self.line, word, parts[1])
        line = line_behind(self.line, word, parts[1])
        self.past.append(self.line)
        self.line = line
        return "ok"

    def go_back(self):
        if len(self.past) == 0:
            raise NoPast("no deed stands any more")
        self.line = self.past.pop()
