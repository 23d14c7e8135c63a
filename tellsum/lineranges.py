"""How little and how much the rows that fit a line have at a place."""

from tellsum.errors import NoPlace
from tellsum.heads import head_ranges, least_heads
from tellsum.lines import fitting_spans, is_place, row_of


def row_with_head(line, spans, j, head):
    return row_of(line, least_heads(spans[:j] + [(head, head)] + spans[j + 1:], line[1][0]))


def line_range(line, place):
    if not is_place(line, place):
        raise NoPlace("this is no place of the line")
    spans = fitting_spans(line)
    j = place % line[0]
    ends = head_ranges(spans, line[1][0])[j]
    return (row_with_head(line, spans, j, ends[0]), row_with_head(line, spans, j, ends[1]))


# For each rest True or False: whether all rows that fit are alike at its places.
def sure_rests(line):
    return [low == high for low, high in head_ranges(fitting_spans(line), line[1][0])]


def sure_places(line):
    k = line[0]
    sure = sure_rests(line)
    return [place for place in range(len(line[2])) if sure[place % k]]
