import random
import time
import unittest

from helpers import (
    BROKEN, EMPTY, after_plainly, chance_book, chance_pool, fits_plainly, pool_of, refused, steps_plainly, vars_of)
from poolrules.books import book_text, read_book
from poolrules.errors import NoStep, NotFitting
from poolrules.plain import after, fits, steps
from poolrules.plays import first_play
from poolrules.pools import pool_text
from poolrules.quick import Quick

KINDS = "passing p 1\npassing q 2\npassing n 0\nlasting e 2\nlasting m 0\n"


def book_of(rules):
    return read_book(KINDS + rules)


class StepTest(unittest.TestCase):
    def check(self, rules, row, want, told=()):
        book = book_of(rules)
        pool = pool_of(book, row, told)
        with self.subTest((rules, row, told)):
            self.assertEqual(steps(book, pool), want)
            for step in want:
                self.assertIs(fits(book, pool, step), True)
        return (book, pool)

    def test_ordinary_steps(self):
        self.check("rule r: take p(A)", "p(b), p(a), p(a), n", [(0, ("a",)), (0, ("b",))])
        self.check("rule r: take p(A); keep e(A,B)", "p(a), p(c), e(a,b), e(a,X), e(b,a)", [(0, ("a", "X")), (0, ("a", "b"))])
        self.check("rule r: take n\nrule s: take p(A); put n", "n, p(a)", [(0, ()), (1, ("a",))])
        self.check("rule r: take n", "p(a)", [])
        self.check("", "p(a), n", [])

    def test_words_in_heads(self):
        self.check("rule r: take p(a)", "p(b), p(A)", [])
        self.check("rule r: take q(a,A)", "q(a,b), q(b,a), q(a,X)", [(0, ("X",)), (0, ("b",))])

    def test_a_name_twice_in_a_head(self):
        self.check("rule r: take q(A,A)", "q(a,b), q(b,b), q(X,X), q(X,b)", [(0, ("X",)), (0, ("b",))])

    def test_passing_heads_that_are_the_same_fact_twice(self):
        for rule in ("rule r: take p(A), p(B)", "rule r: take p(A); keep p(B)", "rule r: keep p(A), p(B); put e(A,B)"):
            self.check(rule, "p(a)", [])
            self.check(rule, "p(a), p(a)", [(0, ("a", "a"))])
            self.check(rule, "p(a), p(b)", [(0, ("a", "b")), (0, ("b", "a"))])
        self.check("rule r: take p(a), p(a); keep p(a)", "p(a), p(a)", [])
        self.check("rule r: take p(a), p(a); keep p(a)", "p(a), p(a), p(a)", [(0, ())])

    def test_two_lasting_heads_that_are_one_fact(self):
        self.check("rule r: take n; keep e(A,B), e(C,D)", "n, e(a,b)", [(0, ("a", "b", "a", "b"))])
        self.check("rule r: keep m, m, m; put e(a,a)", "m", [(0, ())])

    def test_looks(self):
        self.check("rule r: take q(A,B); look A same B", "q(a,b), q(a,a), q(X,X), q(X,a)", [(0, ("X", "X")), (0, ("a", "a"))])
        self.check("rule r: take q(A,B); look A unlike B", "q(a,b), q(a,a), q(X,Y), q(X,a), q(b,X)", [(0, ("a", "b"))])
        self.check("rule r: take p(A); look A same a", "p(a), p(b), p(X)", [(0, ("a",))])
        self.check("rule r: take p(A); look a unlike A", "p(a), p(b), p(X)", [(0, ("b",))])
        self.check("rule r: take n; look a same a, a unlike b", "n", [(0, ())])
        self.check("rule r: take n; look a same b", "n", [])
        self.check("rule r: take n; look a unlike a", "n", [])
        self.check("rule r: take q(A,B); look A same a, B same b", "q(a,b), q(b,a)", [(0, ("a", "b"))])
        self.check("rule r: take p(A); look A same a, A same b", "p(a), p(b)", [])
        self.check("rule r: take p(A), p(B); look A same B, B unlike c", "p(a), p(a), p(c), p(c), p(b)", [(0, ("a", "a"))])

    def test_looks_with_names_that_stand_for_others(self):
        self.check("rule r: take q(A,B); look A same B", "q(X,Y)", [(0, ("X", "X"))], [("Y", "X")])
        self.check("rule r: take q(A,B); look A unlike B", "q(X,Y)", [(0, ("a", "b"))], [("X", "a"), ("Y", "b")])
        self.check("rule r: take q(A,B); look A unlike B", "q(X,Y)", [], [("X", "a")])

    def test_call_ins_that_change_nothing(self):
        rule = "rule r: keep e(A,B); put e(B,A)"
        self.check(rule, "e(a,b)", [(0, ("a", "b"))])
        self.check(rule, "e(a,b), e(b,a), e(c,c)", [])
        self.check("rule r: keep e(A,B); put e(B,A), m", "e(a,a)", [(0, ("a", "a"))])
        self.check("rule r: keep e(A,B); tell A = B", "e(a,a), e(X,X), e(X,Y)", [(0, ("X", "Y"))])
        self.check("rule r: keep e(A,B); put m; tell A = B", "e(a,a), e(X,a), m", [(0, ("X", "a"))])
        self.check("rule r: keep e(A,B); tell A = a, b = b", "e(a,X), e(c,X)", [(0, ("c", "X"))])
        self.check("rule r: keep p(A)", "p(a)", [])
        self.check("rule r: keep p(A); look A same A", "p(a)", [])

    def test_taking_rules_may_change_nothing(self):
        self.check("rule r: take n; put n", "n", [(0, ())])
        self.check("rule r: take p(A); put p(A); tell A = A", "p(a)", [(0, ("a",))])

    def test_names_that_stand_for_others_do_not_fit(self):
        book, pool = self.check("rule r: take p(A)", "p(Y), p(Z)", [(0, ("X",)), (0, ("a",))], [("X", "Y"), ("Z", "a")])
        for name in ("Y", "Z", "V", "b"):
            self.assertIs(fits(book, pool, (0, (name,))), False)
            refused(self, NotFitting, after, book, pool, (0, (name,)))

    def test_the_broken_pool(self):
        book = book_of("rule r: take n\nrule s: keep m; put e(a,a)\nrule t: keep m; tell a = b")
        self.assertEqual(steps(book, BROKEN), [])
        for number in range(3):
            self.assertIs(fits(book, BROKEN, (number, ())), False)
            refused(self, NotFitting, after, book, BROKEN, (number, ()))

    def test_the_empty_pool(self):
        self.check("rule r: take n\nrule s: keep m; put e(a,a)", "", [])

    def test_steps_of_all_rules_are_sorted(self):
        book, pool = self.check(
            "rule z: take p(B), p(A)\nrule y: take p(A)", "p(X), p(c), p(a10)",
            sorted([(0, (one, other)) for one in ("X", "c", "a10") for other in ("X", "c", "a10") if one != other]) +
            [(1, ("X",)), (1, ("a10",)), (1, ("c",))])


class AfterTest(unittest.TestCase):
    def check(self, rules, row, step, want, told=()):
        book = book_of(rules)
        with self.subTest((rules, row, step)):
            self.assertEqual(pool_text(after(book, pool_of(book, row, told), step)), want)

    def test_ordinary_steps(self):
        self.check("rule r: take p(A); put q(A,c)", "p(a), p(a), p(b)", (0, ("a",)), "p(a), p(b), q(a,c); ; ")
        self.check("rule r: take p(A); keep p(B); put e(B,A), n", "p(a), p(b)", (0, ("a", "b")), "n, p(b); e(b,a); ")
        self.check("rule r: take n, n; put n", "n, n", (0, ()), "n; ; ")
        self.check("rule r: take n", "n, m", (0, ()), "; m; ")

    def test_kept_facts_stay(self):
        self.check("rule r: keep p(A), e(A,B); put e(B,A)", "p(a), e(a,b)", (0, ("a", "b")), "p(a); e(a,b), e(b,a); ")

    def test_names_are_told_the_same(self):
        self.check("rule r: take q(A,B); put p(A); tell A = B", "q(X,Y), p(Y)", (0, ("X", "Y")), "p(X), p(X); ; Y=X")
        self.check("rule r: keep e(A,B); tell A = b", "e(X,Y), p(X)", (0, ("X", "Y")), "p(b); e(b,Y); X=b")
        self.check("rule r: take n; tell a = a", "n", (0, ()), "; ; ")

    def test_steps_that_break_the_pool(self):
        self.check("rule r: take q(A,B); tell A = B", "q(a,b), p(c)", (0, ("a", "b")), "broken")
        self.check("rule r: keep e(A,B); tell A = a, B = A", "e(X,b)", (0, ("X", "b")), "broken")
        self.check("rule r: take n; tell a = b", "n", (0, ()), "broken")

    def test_refusals_of_a_step_that_does_not_fit(self):
        book = book_of("rule r: take p(A); look A unlike a\nrule s: keep m; put m\nrule t: take n, n; tell a = b")
        pool = pool_of(book, "p(a), p(X), m, n")
        for step in ((0, ("a",)), (0, ("X",)), (0, ("b",)), (1, ()), (2, ())):
            refused(self, NotFitting, after, book, pool, step)
            self.assertIs(fits(book, pool, step), False)


class NoStepTest(unittest.TestCase):
    def test_numbers_and_lengths(self):
        book = book_of("rule r: take p(A)\nrule s: take q(A,B)\nrule t: take n")
        for pool in (pool_of(book, "p(a), q(a,b), n"), EMPTY, BROKEN):
            for step in (
                (-1, ()), (-1, ("a",)), (3, ("a",)), (3, ()), (99, ("a",)), (0, ()), (0, ("a", "a")), (1, ("a",)),
                (1, ("a", "b", "c")), (1, ()), (2, ("a",)), (-3, ("a",)), (10 ** 30, ()),
            ):
                with self.subTest((pool, step)):
                    refused(self, NoStep, fits, book, pool, step)
                    refused(self, NoStep, after, book, pool, step)

    def test_a_book_without_rules(self):
        book = book_of("")
        for number in (-1, 0, 1):
            refused(self, NoStep, fits, book, EMPTY, (number, ()))
            refused(self, NoStep, after, book, BROKEN, (number, ()))
        self.assertEqual(steps(book, EMPTY), [])


class ChanceTest(unittest.TestCase):
    def test_steps_are_just_those_that_fit(self):
        chance = random.Random(11)
        for _ in range(400):
            book = chance_book(chance, size=3)
            for _ in range(3):
                pool = chance_pool(chance, book)
                want = steps_plainly(book, pool)
                self.assertEqual(steps(book, pool), want, (book_text(book), pool))
                for step in want[:10]:
                    self.assertIs(fits(book, pool, step), True)
                    self.assertEqual(after(book, pool, step), after_plainly(book, pool, step))

    def test_fits_and_after_of_any_names(self):
        chance = random.Random(12)
        for _ in range(400):
            book = chance_book(chance)
            pool = chance_pool(chance, book)
            for _ in range(12):
                number = chance.randrange(len(book.rules))
                names = tuple(chance.choice(("a", "b", "X", "Y", "Z1")) for _ in book.rules[number].names)
                want = fits_plainly(book, pool, (number, names))
                self.assertIs(fits(book, pool, (number, names)), want)
                if not want:
                    refused(self, NotFitting, after, book, pool, (number, names))

    def test_nothing_handed_in_is_changed(self):
        chance = random.Random(13)
        for _ in range(60):
            book = chance_book(chance)
            pool = chance_pool(chance, book)
            kept = vars_of(read_book(book_text(book)))
            first = steps(book, pool)
            for step in first[:5]:
                after(book, pool, step)
            self.assertEqual(vars_of(book), kept)
            told = list(first)
            first.append("more")
            self.assertEqual(steps(book, pool), told)


class SizeTest(unittest.TestCase):
    def test_great_pools_are_answered_without_a_long_wait(self):
        start = time.monotonic()
        book = book_of(
            "rule r: take p(A), p(B); keep e(A,B), e(B,C), e(C,D), e(D,F); look F same A; put p(C)\n"
            "rule s: keep e(A,B), e(B,C), e(C,D); look A unlike D; put e(A,D)\n"
            "rule t: keep p(A), p(B), p(C), p(D); put m\n"
            "rule u: take p(A), p(B), p(C), p(D); keep e(A,B), e(B,C), e(C,D), e(D,A)\n"
            "rule v: keep p(A), p(B), e(C,D); put m; tell D = D")
        names = ["N" + str(number) for number in range(60)] + ["w" + str(number) for number in range(60)]
        row = [f"p({name})" for name in names]
        row += [f"e({names[k]},{names[(k * 7 + 1) % 120]})" for k in range(120)] + ["e(w0,w1)", "e(w1,w0)", "m"]
        pool = pool_of(book, ", ".join(row))
        found = steps(book, pool)
        for step in found:
            self.assertIs(fits_plainly(book, pool, step), True)
        self.assertEqual(found, sorted(found))
        for step in found[:50]:
            after(book, pool, step)
        self.assertLess(time.monotonic() - start, 20)

    def test_heads_that_ask_nothing_of_others_do_not_make_a_long_search(self):
        start = time.monotonic()
        book = book_of(
            "rule r: keep p(A), p(B), p(C), e(D,F); put e(D,F)\nrule s: take p(A), p(B), p(C), q(D,F); keep e(F,D); look D unlike F\n"
            "rule t: keep p(A), p(B), p(C), p(D); put e(v0,v1)")
        row = [f"p(N{k})" for k in range(60)] + [f"e(v{k},v{k + 1})" for k in range(120)] + [f"q(v{k},v{k + 1})" for k in range(120)]
        pool = pool_of(book, ", ".join(row))
        self.assertEqual(steps(book, pool), [])
        self.assertEqual(first_play(book, pool, 1), ([], pool))
        self.assertIsNone(Quick(book, pool).step())
        self.assertLess(time.monotonic() - start, 20)


if __name__ == "__main__":
    unittest.main()
