"""The fewest wrong sums of a line by 2: a row that has all others, and stretches each of which has a wrong one."""

from tellsum.errors import NotTwos
from tellsum.lines import fitted_line, line_paper
from tellsum.sums import line_sums
from tellsum.tellings import rises, row_within


# The sums from a to b, both counted, as a line of their own.
def stretch_line(line, a, b):
    return (2, line[1][a:b + 1], line[2][a:b + 2], line[3][a:b + 2])


def stretch_fits(line, a, b):
    return line_paper(stretch_line(line, a, b)) is None


# Each as short as it can be from where the one ahead of it ended: with its last sum left out a row fits again.
def short_stretches(line):
    stretches = []
    a = 0
    for b in range(len(line[1])):
        if not stretch_fits(line, a, b):
            stretches.append((a, b))
            a = b + 1
    return stretches


# The places from a to b, where the sums from a on, up to b left out, fit.
def part_row(line, a, b):
    if a == b:
        return line[2][a:a + 1]
    return fitted_line(stretch_line(line, a, b - 1))[1]


# Two places beside a wrong sum have nothing in common any more: so each part has a row for itself.
def row_without(line, wrong):
    row = ()
    a = 0
    for b in wrong + (len(line[1]),):
        row = row + part_row(line, a, b)
        a = b + 1
    return row


def twos_wrong(line):
    if line[0] != 2:
        raise NotTwos("this is no line by 2")
    stretches = short_stretches(line)
    wrong = tuple([b for a, b in stretches])
    return (wrong, row_without(line, wrong), stretches)


def wrong_right(line, wrong):
    return rises(wrong) and all([0 <= i < len(line[1]) for i in wrong])


def row_right(line, wrong, row):
    if not row_within(row, line[2], line[3]):
        return False
    sums = line_sums(row, 2)
    return all([i in wrong or sums[i] == total for i, total in enumerate(line[1])])


def stretches_right(line, stretches):
    after = 0
    for a, b in stretches:
        if not after <= a <= b < len(line[1]) or stretch_fits(line, a, b):
            return False
        after = b + 1
    return True


def twos_right(line, told):
    wrong = told[0]
    if not wrong_right(line, wrong) or len(told[2]) != len(wrong):
        return False
    return row_right(line, wrong, told[1]) and stretches_right(line, told[2])
