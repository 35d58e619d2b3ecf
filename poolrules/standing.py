"""The standing rows: all rows of numbers that stay with every rule."""

from poolrules.rowsums import cleared, first_place, slimmed
from poolrules.tallies import effects, passing_kinds


def standing(book):
    width = len(passing_kinds(book))
    rows = reduced(effects(book))
    firsts = [first_place(row) for row in rows]
    free = [place for place in range(width) if place not in firsts]
    return reduced([staying_row(rows, place, width) for place in free])


# The rows' sums of multiples told by rows whose first places grow, each with a
# first number above nought, where all the others have nought.
def reduced(rows):
    found = []
    left = without_noughts(rows)
    while len(left) > 0:
        lead = above_nought(min(left, key=first_place))
        place = first_place(lead)
        found = [cleared(row, lead, place) for row in found] + [lead]
        left = without_noughts([cleared(row, lead, place) for row in left])
    return found


def without_noughts(rows):
    return [row for row in rows if first_place(row) is not None]


def above_nought(row):
    if row[first_place(row)] < 0:
        row = [0 - number for number in row]
    return slimmed(row)


# A row that each of the reduced rows makes nought: it has a number at one free
# place, and at the first places what outweighs it.
def staying_row(rows, free, width):
    times = 1
    for row in rows:
        times = times * row[first_place(row)]
    found = [0] * width
    found[free] = times
    for row in rows:
        place = first_place(row)
        found[place] = 0 - row[free] * (times // row[place])
    return found
