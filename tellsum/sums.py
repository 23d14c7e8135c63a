"""Sums of neighbours: on a line, round a ring, on a floor, and of sets of places."""


def line_sums(row, k):
    return tuple([sum(row[i:i + k]) for i in range(len(row) - k + 1)])


def ring_sums(row, k):
    # Twice round: so a stretch that passes the last place is a slice like any other.
    twice = tuple(row) + tuple(row)
    return tuple([sum(twice[i:i + k]) for i in range(len(row))])


def square_sums(upper, lower):
    return tuple([sum(upper[c:c + 2]) + sum(lower[c:c + 2]) for c in range(len(upper) - 1)])


def floor_sums(numbers):
    return tuple([square_sums(numbers[r], numbers[r + 1]) for r in range(len(numbers) - 1)])


def chosen_sum(row, places):
    return sum([row[place] for place in places])


def set_sums(row, sets):
    return tuple([chosen_sum(row, places) for places in sets])
