"""Tallies: what rules do to the numbers of passing facts, and watches over them."""

from poolrules.rowsums import row_sum


def effects(book):
    kinds = passing_kinds(book)
    return [[effect(rule, kind) for kind in kinds] for rule in book.rules]


def passing_kinds(book):
    return [kind[0] for kind in book.kinds if not kind[2]]


def effect(rule, kind):
    given = [fact for fact in rule.given if fact[0] == kind]
    taken = [fact for fact in rule.taken if fact[0] == kind]
    return len(given) - len(taken)


def tally(book, numbers, pool):
    worth = dict(zip(passing_kinds(book), numbers))
    return sum([worth[fact[0]] for fact in pool[0]])


def breaker(book, how, numbers):
    for number, row in enumerate(effects(book)):
        if breaks(how, row_sum(row, numbers)):
            return number
    return None


def breaks(how, change):
    if how == "stays":
        return change != 0
    if how == "never grows":
        return change > 0
    return change < 0
