import random
import time
import unittest

from helpers import (
    BROKEN, chance_pool, pool_of, refused, small_book, steps_plainly, vars_of, walk)
from poolrules.books import book_text, read_book
from poolrules.clash import clash, looked
from poolrules.errors import NoFall, TooGreat
from poolrules.overlaps import overlaps
from poolrules.plays import ends
from poolrules.weights import weights

KINDS = "passing p 1\npassing q 2\npassing n 0\nlasting e 2\nlasting m 0\nlasting d 1\n"


def book_of(rules):
    return read_book(KINDS + rules)


class LookTest(unittest.TestCase):
    def to_an_end(self, book, pool, steps):
        end = walk(self, book, pool, steps)
        self.assertEqual(steps_plainly(book, end), [], (book_text(book), pool, steps))
        return end

    def check(self, book):
        """What looked and clash tell is so; tells whether clash tells one end."""
        kept = vars_of(book)
        found = looked(book)
        meetings = overlaps(book)
        self.assertEqual([row[0] for row in found], [row[0] for row in meetings])
        alike = True
        for (pool, one, other), (_, first, second) in zip(found, meetings):
            self.assertEqual((one[0], other[0]), (first, second))
            alike = self.to_an_end(book, pool, one) == self.to_an_end(book, pool, other) and alike
        told = clash(book)
        self.assertEqual(told is None, alike, book_text(book))
        if told is not None:
            pool, one, other = told
            self.assertIn(pool, [row[0] for row in meetings])
            self.assertNotEqual(self.to_an_end(book, pool, one), self.to_an_end(book, pool, other))
        self.assertEqual(vars_of(book), kept)
        return told is None

    def one(self, rules):
        with self.subTest(rules):
            self.assertIs(self.check(book_of(rules)), True)

    def two(self, rules):
        with self.subTest(rules):
            self.assertIs(self.check(book_of(rules)), False)


class KnownBooksTest(LookTest):
    def test_books_that_come_to_one_end(self):
        self.one("")
        self.one("rule r: take p(A)")
        self.one("rule r: take p(A); put d(A)\nrule s: take p(A); put d(A)")
        self.one("rule r: take n, n; put n")
        self.one("rule r: take p(A), n; put d(A), n")
        self.one("rule r: take q(A,B); put p(A)\nrule s: take q(A,B); put p(A)\nrule t: take p(A)")
        self.one("rule r: keep p(A); put d(A)")
        self.one("rule r: take q(A,B); tell A = B")
        self.one("rule r: take q(A,B); tell A = B\nrule s: take q(A,B); keep m; tell A = B")

    def test_books_that_come_to_two_ends(self):
        self.two("rule r: take p(A); put d(A)\nrule s: take p(A)")
        self.two("rule r: take p(A), p(B); put p(A)")
        self.two("rule r: take p(A)\nrule s: keep p(A); put d(A)")
        self.two("rule r: take p(A); keep e(A,B); put d(B)")
        self.two("rule r: take n; put p(a)\nrule s: take n; put p(b)")

    def test_unlike_words_and_new_ones(self):
        self.two("rule r: take p(A), n; look A unlike a; put d(A)")
        self.two("rule r: take p(A), n; look A unlike a; put m")
        self.one("rule r: take p(A); keep n; look A unlike a; put m")
        self.two("rule r: take p(A); look A unlike a; put d(A)\nrule s: take p(A); look A unlike b")
        self.one("rule r: take p(A); look A same a; put d(A)\nrule s: take p(A); look A unlike a")
        self.two("rule r: take p(A); look A unlike a; put m\nrule s: take p(b)")
        self.one("rule r: take p(A); look A same a; put m\nrule s: take p(b)")

    def test_ends_in_the_broken_pool(self):
        self.two("rule r: take q(A,B); tell a = b\nrule s: take q(A,B)")
        self.one("rule r: take q(A,B); tell a = b\nrule s: take q(A,B); tell c = b")
        book = book_of("rule r: take n; tell a = b\nrule s: take n")
        pool, one, other = clash(book)
        self.assertIn(BROKEN, (walk(self, book, pool, one), walk(self, book, pool, other)))

    def test_longer_plays(self):
        self.one("rule r: take n, n; put n\nrule s: take n, n, n; put n")
        self.two("rule r: take n, n; put p(a)\nrule s: take p(A), n; put p(b)\nrule t: take p(A), p(B); put p(A)")

    def test_what_is_told_is_the_askers_own(self):
        book = book_of("rule r: take p(A); put d(A)\nrule s: take p(A)")
        found = looked(book)
        for row in found:
            row[1].append("more")
            row[2].clear()
        found.clear()
        told = clash(book)
        told[1].clear()
        told[2].append("more")
        self.check(book)


class NoFallTest(unittest.TestCase):
    def test_books_without_weights(self):
        for rules in ("rule r: take n; put n", "rule r: take p(A); put n\nrule s: take n; put p(a)",
                      "rule r: take n; look a same b; put n, n", "rule r: take p(A)\nrule s: take p(A)\nrule t: take q(A,B); put q(A,B)"):
            refused(self, NoFall, looked, book_of(rules))
            refused(self, NoFall, clash, book_of(rules))


class ChanceTest(LookTest):
    def test_small_books(self):
        chance = random.Random(61)
        count = {True: 0, False: 0}
        for _ in range(500):
            book = small_book(chance)
            if weights(book)[0] == "round":
                refused(self, NoFall, looked, book)
                refused(self, NoFall, clash, book)
                continue
            one = self.check(book)
            count[one] += 1
            if one:
                for pool in [chance_pool(chance, book, 6) for _ in range(4)] + [row[0] for row in overlaps(book)[:6]]:
                    try:
                        self.assertEqual(len(ends(book, pool, 300)), 1, (book_text(book), pool))
                    except TooGreat:
                        pass
        self.assertGreater(min(count.values()), 60)


class SizeTest(LookTest):
    def test_great_books_are_answered_without_a_long_wait(self):
        start = time.monotonic()
        rules = [f"rule r{k}: take p(A), p(B); keep e(A,B), e(B,C); look A unlike b; put d(a), d(b), d(c)" for k in range(7)]
        rules.append("rule z: take p(A); put d(a), d(b), d(c)")
        book = book_of("\n".join(rules))
        self.assertIsNone(clash(book))
        self.assertGreater(len(looked(book)), 500)
        long = book_of("rule r: take p(A), n; put n\nrule s: take q(A,B), n; put " + ", ".join(["p(A)"] * 3) + ", n")
        self.assertIsNone(clash(long))
        self.assertLess(time.monotonic() - start, 20)


if __name__ == "__main__":
    unittest.main()
