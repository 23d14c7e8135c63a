"""Rows and lines written as texts, and read again: just what is so written."""

from tellsum.errors import NoText
from tellsum.tellings import made_line

MOST_NUMBERS = 24
MOST_FIGURES = 60
FIGURES = "0123456789"


def row_text(row):
    return " ".join([str(number) for number in row])


def line_text(line):
    k = line[0]
    sums = row_text(line[1])
    least = row_text(line[2])
    greatest = row_text(line[3])
    return f"{k}: {sums} | {least} | {greatest}"


# None where the text is no number so written.
def number_of(text):
    figures = text[1:] if text.startswith("-") else text
    if not 1 <= len(figures) <= MOST_FIGURES or not all([figure in FIGURES for figure in figures]):
        return None
    if figures[0] == "0" and text != "0":
        return None
    return int(text)


def read_row(text):
    numbers = [number_of(word) for word in text.split(" ")]
    if len(numbers) > MOST_NUMBERS or None in numbers:
        raise NoText("this text writes no row")
    return tuple(numbers)


def read_line(text):
    parts = text.partition(": ")
    k = number_of(parts[0])
    rows = parts[2].split(" | ")
    if k is None or len(rows) != 3:
        raise NoText("this text writes no line")
    return made_line(k, read_row(rows[0]), read_row(rows[1]), read_row(rows[2]))
