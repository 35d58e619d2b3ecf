"""Rows of whole numbers: their sums, multiples and common divisors."""


def row_sum(row, numbers):
    return sum([one * other for one, other in zip(row, numbers)])


# So many times the one row and so many times the other one, place by place.
def mixed(times, row, other_times, other):
    return [times * one + other_times * two for one, two in zip(row, other)]


# The greatest number that divides all of a row; nought for a row of noughts.
def divisor(row):
    found = 0
    for number in row:
        rest = abs(number)
        while rest != 0:
            later = found % rest
            found = rest
            rest = later
    return found


def slimmed(row):
    common = divisor(row)
    if common == 0:
        return list(row)
    return [number // common for number in row]


# The row made nought at a place with the help of another one, whose number there
# is above nought: so a multiple of the row that is above nought goes into it.
def cleared(row, other, place):
    return slimmed(mixed(other[place], row, 0 - row[place], other))


# The place of the first number that is not nought, or None.
def first_place(row):
    for place, number in enumerate(row):
        if number != 0:
            return place
    return None
