"""Weights: a book's taking rules all fall by some row of numbers, or some of them go round."""

from poolrules.rowsums import cleared, slimmed
from poolrules.tallies import effects, passing_kinds


def weights(book):
    rows = effects(book)
    taking = [number for number, rule in enumerate(book.rules) if not rule.calls()]
    answer = falls_or_round([rows[number] for number in taking], len(passing_kinds(book)))
    if answer[0] == "falls":
        return answer
    numbers = [0] * len(rows)
    for place, number in enumerate(taking):
        numbers[number] = answer[1][place]
    return ("round", numbers)


# The simplex way: how often the rules are done is made as much as can be while
# no kind's sum falls below nought. The table has a line for each kind, with a
# column for each rule and one more for each kind's sum. Where nothing above
# nought can be done, what the goal says of the kinds are weights; where there
# is no bound, the way on is a round. Lines stand for equations with nought, so
# each may be multiplied by a number above nought and all stays whole.
def falls_or_round(rows, width):
    count = len(rows)
    lines = [table_line(rows, place, width) for place in range(width)]
    basis = [count + place for place in range(width)]
    goal = [1] * count + [0] * width
    while True:
        column = first_above(goal)
        if column is None:
            return ("falls", slimmed([0 - number for number in goal[count:]]))
        chosen = leaving(lines, basis, column)
        if chosen is None:
            return ("round", slimmed(way_on(lines, basis, column, count)))
        pivot = lines[chosen]
        goal = cleared(goal, pivot, column)
        lines = [pivot if place == chosen else cleared(line, pivot, column) for place, line in enumerate(lines)]
        basis[chosen] = column


def table_line(rows, place, width):
    sums = [1 if other == place else 0 for other in range(width)]
    return [0 - row[place] for row in rows] + sums


# Always the first column, and below the line whose own column stands first:
# so the search never comes round to a table that it had.
def first_above(goal):
    for column, number in enumerate(goal):
        if number > 0:
            return column
    return None


def leaving(lines, basis, column):
    found = None
    for place, line in enumerate(lines):
        if line[column] > 0 and (found is None or basis[place] < basis[found]):
            found = place
    return found


# How the rules' columns grow together with the one that has no bound.
def way_on(lines, basis, column, count):
    times = 1
    for place, line in enumerate(lines):
        times = times * line[basis[place]]
    grown = {column: times}
    for place, line in enumerate(lines):
        grown[basis[place]] = 0 - line[column] * (times // line[basis[place]])
    return [grown.get(place, 0) for place in range(count)]
