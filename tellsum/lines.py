"""Lines: the mores of places, the spans of rests, and the least row that fits or a paper that none does."""

from tellsum.errors import NoFit
from tellsum.heads import head_spans, heads_paper, least_heads, less_mores, row_by_heads


def is_place(line, number):
    return 0 <= number < len(line[2])


def mores_of(line):
    sums = line[1]
    mores = [0] * line[0]
    for i in range(len(sums) - 1):
        mores.append(mores[i] + sums[i + 1] - sums[i])
    return mores


# What each place's least number asks, at least, of the first place of its rest.
def low_asks(line):
    return less_mores(line[2], mores_of(line))


# What each place's greatest number lets the first place of its rest have at most.
def high_asks(line):
    return less_mores(line[3], mores_of(line))


def rest_spans(line):
    return head_spans(low_asks(line), high_asks(line), line[0])


def row_of(line, heads):
    return row_by_heads(heads, mores_of(line))


def line_paper(line):
    return heads_paper(low_asks(line), high_asks(line), line[0], line[1][0])


def fitted_line(line):
    paper = line_paper(line)
    if paper is not None:
        return paper
    return ("row", row_of(line, least_heads(rest_spans(line), line[1][0])))


def fitting_spans(line):
    if line_paper(line) is not None:
        raise NoFit("no row fits this line")
    return rest_spans(line)
