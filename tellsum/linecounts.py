"""All rows that fit a line: how many there are, and which number each has in ascending order."""

from tellsum.errors import NoFit, NoNumber
from tellsum.heads import heads_at, heads_many, heads_number
from tellsum.lines import rest_spans, row_of
from tellsum.tellings import line_holds


def line_many(line):
    return heads_many(rest_spans(line), line[1][0])


def line_at(line, number):
    if not 0 <= number < line_many(line):
        raise NoNumber("no row that fits this line has this number")
    return row_of(line, heads_at(rest_spans(line), line[1][0], number))


def line_number(line, row):
    if not line_holds(line, row):
        raise NoFit("this row doesn't fit the line")
    return heads_number(rest_spans(line), line[1][0], row)
