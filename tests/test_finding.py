import random
import time
import unittest

from helpers import BROKEN, chance_book, chance_pool, fits_plainly, pool_of, vars_of
from poolrules.books import book_text, read_book
from poolrules.finding import Finder
from poolrules.index import Index
from poolrules.plain import Layout, steps
from poolrules.pools import moved

KINDS = "passing p 1\npassing q 2\npassing n 0\nlasting e 2\nlasting m 0\n"


def heads_of(book, step):
    rule = book.rules[step[0]]
    stand = dict(zip(rule.names, step[1]))
    return [(fact[0], tuple(stand.get(name, name) for name in fact[1])) for fact in rule.taken + rule.kept]


def laid_out(index):
    return (index.shelf, index.counts, index.lasting)


def all_ways(book, index):
    finder = Finder(book)
    found = set()
    for fact in list(index.counts) + list(index.lasting):
        found |= set(finder.ways(index, fact, -1))
    return sorted(found)


class IndexTest(unittest.TestCase):
    def setUp(self):
        self.book = read_book(KINDS)

    def index_of(self, row, told=()):
        return Index(pool_of(self.book, row, told))

    def check(self, index, row):
        self.assertEqual(laid_out(index), laid_out(self.index_of(row)))

    def test_facts_come_and_go(self):
        index = self.index_of("p(a)")
        index.put_passing(("p", ("a",)), 2)
        index.put_passing(("q", ("a", "X")), 1)
        self.check(index, "p(a), p(a), p(a), q(a,X)")
        index.take(("p", ("a",)))
        self.check(index, "p(a), p(a), q(a,X)")
        index.take(("p", ("a",)))
        index.take(("q", ("a", "X")))
        self.check(index, "p(a)")
        self.assertTrue(index.has(("p", ("a",))))
        index.take(("p", ("a",)))
        self.assertFalse(index.has(("p", ("a",))))
        self.check(index, "")

    def test_lasting_facts_are_there_once(self):
        index = self.index_of("m")
        index.put_lasting(("m", ()))
        index.put_lasting(("e", ("a", "b")))
        index.put_lasting(("e", ("a", "b")))
        self.check(index, "m, e(a,b)")

    def test_names_told_the_same(self):
        index = self.index_of("p(X), p(Y), p(Y), q(Y,Y), q(X,b), e(X,a), e(Y,a), e(Y,Y), n, m")
        anew = index.retell("Y", "X")
        self.check(index, "p(X), p(X), p(X), q(X,X), q(X,b), e(X,a), e(X,X), n, m")
        self.assertEqual(set(anew), {("p", ("X",)), ("q", ("X", "X")), ("e", ("X", "a")), ("e", ("X", "X"))})
        self.assertEqual(set(index.retell("X", "b")), {
            ("p", ("b",)), ("q", ("b", "b")), ("e", ("b", "a")), ("e", ("b", "b"))})
        self.check(index, "p(b), p(b), p(b), q(b,b), q(b,b), e(b,a), e(b,b), n, m")
        self.assertEqual(index.retell("Z", "b"), [])

    def test_the_broken_pool_has_nothing(self):
        self.assertEqual(laid_out(Index(BROKEN)), ({}, {}, {}))

    def test_changes_agree_with_an_index_made_anew(self):
        chance = random.Random(81)
        names = ("a", "X", "Y", "Z")
        for _ in range(150):
            pool = pool_of(self.book, "")
            index = Index(pool)
            for _ in range(15):
                put = [(chance.choice((("p", (chance.choice(names),)), ("q", (chance.choice(names), chance.choice(names))),
                                       ("e", (chance.choice(names), chance.choice(names))), ("m", ()), ("n", ()))))]
                put = [(fact[0], tuple(dict(pool[2]).get(name, name) for name in fact[1])) for fact in put]
                taken = [chance.choice(pool[0])] if pool[0] and chance.random() < 0.4 else []
                told = []
                for fact in taken:
                    index.take(fact)
                for fact in put:
                    if fact[0] in ("e", "m"):
                        index.put_lasting(fact)
                    else:
                        index.put_passing(fact, 1)
                pool = moved(self.book.kinds, pool, taken, put, [])
                free = [name for name, other in pool[2] if name == other]
                if len(free) > 1 and chance.random() < 0.2:
                    told = sorted(chance.sample(free, 2))
                    index.retell(told[1], told[0])
                    pool = moved(self.book.kinds, pool, [], [], [tuple(told)])
                self.assertEqual(laid_out(index), laid_out(Layout(pool)))


class FindingTest(unittest.TestCase):
    def test_what_is_found_is_just_what_fits(self):
        chance = random.Random(82)
        some = 0
        for _ in range(600):
            book = chance_book(chance, size=chance.choice((1, 2, 3)))
            kept = vars_of(book)
            pool = chance_pool(chance, book)
            index = Index(pool)
            want = steps(book, pool)
            some += len(want) > 0
            self.assertEqual(all_ways(book, index), want, (book_text(book), pool))
            finder = Finder(book)
            for fact in pool[0] + pool[1]:
                with_fact = [step for step in want if fact in heads_of(book, step)]
                self.assertEqual(sorted(set(finder.ways(index, fact, -1))), with_fact)
                one = finder.ways(index, fact, 1)
                self.assertEqual(len(one), 1 if with_fact else 0)
                self.assertTrue(all(step in with_fact for step in one))
                self.assertLessEqual(len(finder.ways(index, fact, 2)), 2)
            self.assertEqual(vars_of(book), kept)
        self.assertGreater(some, 100)

    def test_behind_names_told_the_same(self):
        chance = random.Random(83)
        more = 0
        for _ in range(600):
            book = chance_book(chance, size=chance.choice((1, 2, 3)))
            pool = chance_pool(chance, book, names=("a", "b", "c", "X", "Y", "Z1", "W"))
            index = Index(pool)
            free = [name for name, other in pool[2] if name == other]
            while len(free) > 1:
                one, other = sorted(chance.sample(free, 2))
                if chance.random() < 0.4:
                    one = chance.choice("abc")
                index.retell(other, one)
                pool = moved(book.kinds, pool, [], [], [(one, other)])
                free.remove(other)
                self.assertEqual(all_ways(book, index), steps(book, pool), (book_text(book), pool))
                more += len(steps(book, pool)) > 0
        self.assertGreater(more, 100)

    def test_a_fact_for_several_heads(self):
        book = read_book(KINDS + "rule r: take p(A), p(B); put q(A,B)\nrule s: keep e(A,B), e(B,C); put e(A,C)")
        index = Index(pool_of(book, "p(a), p(a), p(b), e(a,b), e(b,c)"))
        found = Finder(book).ways(index, ("p", ("a",)), -1)
        self.assertEqual(sorted(set(found)), [(0, ("a", "a")), (0, ("a", "b")), (0, ("b", "a"))])
        self.assertEqual(set(Finder(book).ways(index, ("e", ("b", "c")), -1)), {(1, ("a", "b", "c"))})
        self.assertEqual(Finder(book).ways(index, ("n", ()), -1), [])

    def test_great_pools_are_searched_without_a_long_wait(self):
        start = time.monotonic()
        book = read_book(
            KINDS + "rule r: take p(A), p(B), p(C), p(D); keep e(A,B), e(B,C), e(C,D), e(D,A); look A unlike C; put m\n"
            "rule s: keep p(A), p(B), p(C), p(D); put m")
        names = ["w" + str(number) for number in range(120)]
        row = [f"p({name})" for name in names] + [f"e({names[k]},{names[(k * 7 + 1) % 120]})" for k in range(120)] + ["m"]
        pool = pool_of(book, ", ".join(row))
        index = Index(pool)
        finder = Finder(book)
        for fact in pool[0] + pool[1]:
            for step in finder.ways(index, fact, 3):
                self.assertTrue(fits_plainly(book, pool, step))
        self.assertLess(time.monotonic() - start, 20)


if __name__ == "__main__":
    unittest.main()
