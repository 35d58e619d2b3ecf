import random
import unittest

from helpers import BROKEN, EMPTY, after_plainly, chance_book, chance_pool, pool_of, steps_plainly, vars_of
from poolrules.books import read_book
from poolrules.tallies import breaker, effects, tally

KINDS = "passing p 1\nlasting e 2\npassing n 0\nlasting m 0\npassing q 2\n"
WATCHES = ("stays", "never grows", "never falls")


def book_of(rules):
    return read_book(KINDS + rules)


class EffectsTest(unittest.TestCase):
    def test_ordinary_rules(self):
        book = book_of(
            "rule r: take p(A), p(B), n; put q(A,B), q(B,A), q(A,A)\nrule s: take p(A); put p(a), p(A), p(A)\n"
            "rule t: take q(A,B); put e(A,B), m")
        self.assertEqual(effects(book), [[-2, -1, 3], [2, 0, 0], [0, 0, -1]])

    def test_kept_facts_count_nothing(self):
        book = book_of("rule r: take n; keep p(A), p(B), q(A,B), e(A,B)\nrule s: take p(A); keep p(A); put p(A)")
        self.assertEqual(effects(book), [[0, -1, 0], [0, 0, 0]])

    def test_call_ins(self):
        self.assertEqual(effects(book_of("rule r: keep p(A), n; put m, e(A,A)\nrule s: keep m")), [[0, 0, 0], [0, 0, 0]])

    def test_rules_that_can_never_fit_count_too(self):
        self.assertEqual(effects(book_of("rule r: take n; look a same b; put p(a)")), [[1, -1, 0]])

    def test_books_without_rules_or_kinds(self):
        self.assertEqual(effects(read_book("")), [])
        self.assertEqual(effects(book_of("")), [])
        self.assertEqual(effects(read_book("lasting m 0\nlasting e 1\nrule r: keep m; put e(a)")), [[]])

    def test_what_is_told_is_the_askers_own(self):
        book = book_of("rule r: take n")
        effects(book)[0][0] = 9
        effects(book).clear()
        self.assertEqual(effects(book), [[0, -1, 0]])


class TallyTest(unittest.TestCase):
    def test_sums(self):
        book = book_of("")
        pool = pool_of(book, "p(a), p(a), p(b), n, q(a,b), e(a,b), m")
        self.assertEqual(tally(book, [1, 1, 1], pool), 5)
        self.assertEqual(tally(book, [10, -3, 0], pool), 27)
        self.assertEqual(tally(book, [0, 0, -10 ** 80], pool), -10 ** 80)
        self.assertEqual(tally(book, [5, 5, 5], EMPTY), 0)

    def test_the_broken_pool(self):
        self.assertEqual(tally(book_of(""), [1, 2, 3], BROKEN), 0)

    def test_books_without_passing_kinds(self):
        book = read_book("lasting m 0")
        self.assertEqual(tally(book, [], pool_of(book, "m")), 0)
        self.assertEqual(tally(read_book(""), [], EMPTY), 0)

    def test_numbers_go_by_the_order_of_the_kinds(self):
        book = read_book("passing z 0\npassing a 0")
        self.assertEqual(tally(book, [100, 1], pool_of(book, "z, a, a")), 102)


class BreakerTest(unittest.TestCase):
    def setUp(self):
        self.book = book_of("rule r: take p(A); put n\nrule s: take n, n; put p(a)\nrule t: keep m; put e(a,b)\nrule u: take q(A,B); put n")

    def test_watches_that_no_rule_breaks(self):
        for how in WATCHES:
            self.assertIsNone(breaker(self.book, how, [0, 0, 0]))
        self.assertIsNone(breaker(self.book, "never grows", [1, 1, 1]))
        self.assertIsNone(breaker(self.book, "never falls", [-1, -1, -1]))

    def test_the_first_rule_that_breaks(self):
        for how, numbers, want in (
            ("stays", [1, 1, 1], 1), ("stays", [2, 1, 1], 0), ("stays", [0, 0, 1], 3), ("never grows", [1, 2, 2], 0),
            ("never grows", [3, 1, 1], 1), ("never grows", [1, 1, 0], 3), ("never falls", [1, 1, 1], 1),
            ("never falls", [2, 1, 5], 0), ("never falls", [1, 1, 2], 1), ("never falls", [0, 0, 1], 3),
            ("never falls", [-10 ** 70, 0, 0], 1), ("never grows", [0, 10 ** 70, 0], 0),
        ):
            with self.subTest((how, numbers)):
                self.assertEqual(breaker(self.book, how, numbers), want)

    def test_books_without_rules_or_kinds(self):
        for how in WATCHES:
            self.assertIsNone(breaker(read_book(""), how, []))
            self.assertIsNone(breaker(book_of(""), how, [1, 2, 3]))
            self.assertIsNone(breaker(read_book("lasting m 0\nrule r: keep m"), how, []))

    def test_by_the_words_of_the_document(self):
        chance = random.Random(41)
        for _ in range(200):
            book = chance_book(chance, rules=6, size=4)
            kept = vars_of(book)
            numbers = [chance.choice((0, 1, -1, 7, -10 ** 20)) for kind in book.kinds if not kind[2]]
            for how in WATCHES:
                found = [k for k, row in enumerate(effects(book)) if self.broken_by(how, row, numbers)]
                self.assertEqual(breaker(book, how, numbers), found[0] if found else None)
            self.assertEqual(vars_of(book), kept)

    def broken_by(self, how, row, numbers):
        change = sum(one * other for one, other in zip(row, numbers))
        return {"stays": change != 0, "never grows": change > 0, "never falls": change < 0}[how]

    def test_watches_that_are_kept_hold_in_plays(self):
        chance = random.Random(42)
        kept = 0
        for _ in range(300):
            book = chance_book(chance)
            pool = chance_pool(chance, book)
            numbers = [chance.choice((0, 1, 1, -1)) for kind in book.kinds if not kind[2]]
            ways = [how for how in WATCHES if breaker(book, how, numbers) is None]
            for _ in range(5):
                fitting = steps_plainly(book, pool)
                if not fitting:
                    break
                step = chance.choice(fitting)
                later = after_plainly(book, pool, step)
                if later == BROKEN:
                    break
                change = tally(book, numbers, later) - tally(book, numbers, pool)
                self.assertEqual(change, sum(a * b for a, b in zip(effects(book)[step[0]], numbers)))
                for how in ways:
                    kept += 1
                    self.assertFalse(self.broken_by(how, [change], [1]))
                pool = later
        self.assertGreater(kept, 100)


if __name__ == "__main__":
    unittest.main()
