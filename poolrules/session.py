"""Sessions: a text that tells a book and what is done with it."""

from poolrules.books import hear_line, whole_book
from poolrules.clash import clash
from poolrules.deeds import WATCHES, read_deed
from poolrules.errors import NoLine, NoPool, TooGreat
from poolrules.plays import ends, first_play
from poolrules.pools import moved, pool_text, start_pool
from poolrules.quick import Quick
from poolrules.reader import is_book_line, told_lines
from poolrules.tallies import breaker, passing_kinds
from poolrules.weights import weights


def answers(text):
    kinds = []
    rules = []
    deeds = []
    for line in told_lines(text):
        if is_book_line(line):
            hear_line(kinds, rules, line)
        else:
            deeds.append(read_deed(line))
    session = Session(whole_book(kinds, rules))
    for deed in deeds:
        session.do(deed[0], deed[1])
    return session.answered


class Session:
    def __init__(self, book):
        self.book = book
        self.pool = None
        self.answered = []
        self.reckonings = {}

    def do(self, word, what):
        if word == "pool":
            self.pool = start_pool(self.book.kinds, what)
        elif word in WATCHES:
            self.answered.append(self.watched(word, what))
        elif word in ("weights", "clash"):
            self.answered.append(self.reckoned((word,)))
        elif self.pool is None:
            raise NoPool(f"no pool is told ahead of it: {word!r}")
        elif word == "add":
            self.pool = moved(self.book.kinds, self.pool, [], what, [])
        elif word == "say":
            self.pool = moved(self.book.kinds, self.pool, [], [], what)
        else:
            self.answered.append(self.played(word, what))

    def played(self, word, most):
        behind = self.reckoned((word, self.pool, most))
        self.pool = behind[1]
        return behind[0]

    # Neither the book nor a pool is ever changed, so what is asked again is
    # not reckoned again.
    def reckoned(self, question):
        if question not in self.reckonings:
            self.reckonings[question] = self.reckon(question)
        return self.reckonings[question]

    def reckon(self, question):
        word = question[0]
        if word == "weights":
            return weights(self.book)[0]
        if word == "clash":
            return self.one_end_or_two()
        if word == "ends":
            return (self.all_ends(question[1], question[2]), question[1])
        pool = self.pool_behind(word, question[1], question[2])
        return (pool_text(pool), pool)

    def one_end_or_two(self):
        if self.reckoned(("weights",)) == "round":
            return "round"
        return "one end" if clash(self.book) is None else "two ends"

    def all_ends(self, pool, most):
        try:
            found = ends(self.book, pool, most)
        except TooGreat:
            return "too many"
        return " | ".join([pool_text(end) for end in found])

    def pool_behind(self, word, pool, most):
        if word == "first":
            return first_play(self.book, pool, most)[1]
        player = Quick(self.book, pool)
        player.run(most)
        return player.now()

    def watched(self, how, numbers):
        if len(numbers) != len(passing_kinds(self.book)):
            raise NoLine(f"the book has another number of passing kinds: {numbers!r}")
        number = breaker(self.book, how, numbers)
        if number is None:
            return "kept"
        return "broken by " + self.book.rules[number].title
