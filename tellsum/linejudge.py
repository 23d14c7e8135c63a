"""The judge of what is told of a line: it only adds and compares, and refuses nothing.

Whether a clash, a low or a high is so is asked by what places ask of the heads: so the judge of rings asks it, too.
"""

from tellsum.heads import lesser_rows
from tellsum.lines import high_asks, low_asks
from tellsum.sums import chosen_sum
from tellsum.tellings import line_holds


def least_right(line, row):
    if not line_holds(line, row):
        return False
    return not any([line_holds(line, lesser) for lesser in lesser_rows(row, line[0])])


def clash_right(lows, highs, many, a, b):
    if not 0 <= a < len(lows) or not 0 <= b < len(highs) or a % many != b % many:
        return False
    return lows[a] > highs[b]


def one_of_each(asks, many, places):
    if len(places) != many:
        return False
    return all([0 <= place < len(asks) and place % many == j for j, place in enumerate(places)])


def low_right(lows, many, total, places):
    return one_of_each(lows, many, places) and chosen_sum(lows, places) > total


def high_right(highs, many, total, places):
    return one_of_each(highs, many, places) and chosen_sum(highs, places) < total


def paper_right(lows, highs, many, total, told):
    word = told[0]
    if word == "clash":
        return clash_right(lows, highs, many, told[1], told[2])
    if word == "low":
        return low_right(lows, many, total, told[1])
    return word == "high" and high_right(highs, many, total, told[1])


def line_right(line, told):
    if told[0] == "row":
        return least_right(line, told[1])
    return paper_right(low_asks(line), high_asks(line), line[0], line[1][0], told)
