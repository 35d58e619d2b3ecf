import random
import time
import unittest

from helpers import (
    BROKEN, EMPTY, after_plainly, chance_book, chance_fact, chance_pool, pool_of, refused, steps_plainly, vars_of, walk)
from poolrules.books import book_text, read_book
from poolrules.errors import TooGreat
from poolrules.plays import ends, first_play, play
from poolrules.pools import pool_text, start_pool

KINDS = "passing p 1\npassing q 2\npassing n 0\nlasting e 2\nlasting m 0\n"


def book_of(rules):
    return read_book(KINDS + rules)


def play_plainly(book, pool, picks):
    done = []
    for pick in picks:
        fitting = steps_plainly(book, pool)
        if not fitting:
            break
        place = pick - (pick // len(fitting)) * len(fitting)
        done.append(fitting[place])
        pool = after_plainly(book, pool, fitting[place])
    return (done, pool)


def ends_plainly(book, pool, most):
    """All ends, or None where there are too many pools."""
    seen = [pool]
    for here in seen:
        if len(seen) > most:
            return None
        for step in steps_plainly(book, here):
            later = after_plainly(book, here, step)
            if later not in seen:
                seen.append(later)
    if len(seen) > most:
        return None
    return sorted(here for here in seen if not steps_plainly(book, here))


class PlayTest(unittest.TestCase):
    def setUp(self):
        self.book = book_of("rule r: take p(A); put q(A,A)\nrule s: take q(A,A)")
        self.pool = pool_of(self.book, "p(a), p(b), p(c)")

    def test_picks(self):
        done, pool = play(self.book, self.pool, [2, 1, 0])
        self.assertEqual(done, [(0, ("c",)), (0, ("b",)), (0, ("a",))])
        self.assertEqual(pool_text(pool), "q(a,a), q(b,b), q(c,c); ; ")
        done, pool = play(self.book, self.pool, [3, 5])
        self.assertEqual(done, [(0, ("a",)), (1, ("a",))])
        self.assertEqual(pool_text(pool), "p(b), p(c); ; ")

    def test_picks_below_nought_and_of_many_figures(self):
        self.assertEqual(play(self.book, self.pool, [-1])[0], [(0, ("c",))])
        self.assertEqual(play(self.book, self.pool, [-3])[0], [(0, ("a",))])
        self.assertEqual(play(self.book, self.pool, [10 ** 80 + 1])[0], [(0, ("c",))])
        self.assertEqual(play(self.book, self.pool, [-10 ** 80])[0], [(0, ("c",))])

    def test_no_picks_and_more_than_there_are_steps(self):
        self.assertEqual(play(self.book, self.pool, []), ([], self.pool))
        done, pool = play(self.book, self.pool, [0] * 20)
        self.assertEqual((len(done), pool), (6, EMPTY))
        self.assertEqual(play(self.book, EMPTY, [0, 1]), ([], EMPTY))
        self.assertEqual(play(self.book, BROKEN, [0, 1]), ([], BROKEN))

    def test_the_first_play(self):
        done, pool = first_play(self.book, self.pool, 4)
        self.assertEqual(done, [(0, ("a",)), (0, ("b",)), (0, ("c",)), (1, ("a",))])
        self.assertEqual(pool_text(pool), "q(b,b), q(c,c); ; ")
        self.assertEqual(len(first_play(self.book, self.pool, 6)[0]), 6)
        self.assertEqual(len(first_play(self.book, self.pool, 99)[0]), 6)

    def test_a_number_of_steps_of_nought_and_below(self):
        for most in (0, -1, -10 ** 40):
            self.assertEqual(first_play(self.book, self.pool, most), ([], self.pool))

    def test_a_play_that_breaks_the_pool(self):
        book = book_of("rule r: take q(A,B); tell A = B")
        pool = pool_of(book, "q(a,b), q(b,c)")
        self.assertEqual(first_play(book, pool, 9), ([(0, ("a", "b"))], BROKEN))
        self.assertEqual(play(book, pool, [1, 1]), ([(0, ("b", "c"))], BROKEN))

    def test_a_play_without_end(self):
        book = book_of("rule r: take n; put n, n")
        self.assertEqual(len(first_play(book, pool_of(book, "n"), 30)[1][0]), 31)


class EndsTest(unittest.TestCase):
    def check(self, rules, row, most, want):
        book = book_of(rules)
        with self.subTest((rules, row, most)):
            self.assertEqual([pool_text(pool) for pool in ends(book, pool_of(book, row), most)], want)

    def great(self, rules, row, most):
        book = book_of(rules)
        with self.subTest((rules, row, most)):
            refused(self, TooGreat, ends, book, pool_of(book, row), most)

    def test_ordinary_ends(self):
        self.check("rule r: take p(A), p(B); put p(A)", "p(b), p(a), p(c)", 20, ["p(a); ; ", "p(b); ; ", "p(c); ; "])
        self.check("rule r: take n\nrule s: take n; put m", "n", 20, ["; ; ", "; m; "])

    def test_a_pool_that_no_step_fits(self):
        self.check("rule r: take n", "p(a)", 1, ["p(a); ; "])
        self.check("", "", 1, ["; ; "])
        self.great("", "", 0)
        book = book_of("rule r: take n")
        self.assertEqual(ends(book, BROKEN, 1), [BROKEN])
        refused(self, TooGreat, ends, book, BROKEN, 0)

    def test_a_pool_that_can_be_come_to_in_two_ways(self):
        rules = "rule r: take p(A)"
        self.check(rules, "p(a), p(b)", 4, ["; ; "])
        self.great(rules, "p(a), p(b)", 3)

    def test_as_many_pools_as_told_and_one_more(self):
        rules = "rule r: take n"
        self.check(rules, "n, n, n", 4, ["; ; "])
        self.check(rules, "n, n, n", 10 ** 30, ["; ; "])
        for most in (3, 2, 1, 0, -1, -10 ** 30):
            self.great(rules, "n, n, n", most)

    def test_without_end(self):
        self.great("rule r: take n; put n, n", "n", 40)
        self.check("rule r: take n; put n", "n", 1, [])
        self.check("rule r: take p(A); put q(A,A)\nrule s: take q(A,A); put p(A)", "p(a)", 2, [])

    def test_the_broken_pool_among_the_ends(self):
        self.check("rule r: take q(A,B); tell A = B\nrule s: take q(A,B)", "q(a,b), q(b,c)", 9, ["; ; ", "broken"])
        self.check("rule r: take q(A,B); tell A = B\nrule s: take q(A,B)", "q(X,b)", 9, ["; ; ", "; ; X=b"])

    def test_each_end_once(self):
        self.check("rule r: take p(A); put m\nrule s: take q(A,B); put m", "p(a), q(a,b)", 9, ["; m; "])


class ChanceTest(unittest.TestCase):
    def test_plays_go_by_fitting_steps(self):
        chance = random.Random(21)
        for _ in range(200):
            book = chance_book(chance, size=3)
            pool = chance_pool(chance, book)
            picks = [chance.choice((chance.randint(-9, 9), chance.randint(-10 ** 30, 10 ** 30))) for _ in range(6)]
            kept = (vars_of(book), list(picks))
            self.assertEqual(play(book, pool, picks), play_plainly(book, pool, picks))
            done, behind = first_play(book, pool, 6)
            self.assertEqual((done, behind), play_plainly(book, pool, [0] * 6), (book_text(book), pool))
            self.assertEqual(walk(self, book, pool, done), behind)
            self.assertEqual((vars_of(book), picks), kept)

    def test_the_first_step_is_the_least_of_many(self):
        chance = random.Random(23)
        names = ["a", "b", "c", "d", "X", "Y", "Z"]
        for rule in (
            "take q(A,B); keep e(B,C)", "take q(A,B), q(B,C); put q(C,A)", "take q(A,B); keep e(C,B), e(C,A)",
            "take p(A); keep q(B,A), e(C,B); put q(A,A)", "keep q(A,B), e(B,C); put e(A,C)", "take q(A,B), p(C); look C same B",
            "take p(A), p(B), q(C,A); look A unlike C", "keep q(A,B), q(C,B); tell A = C", "take q(A,B); look B same c; put p(A)",
        ):
            book = book_of("rule r: " + rule)
            for _ in range(25):
                facts = [chance_fact(chance, [kind for kind in book.kinds if kind[1] > 0], names) for _ in range(chance.randint(4, 18))]
                pool = start_pool(book.kinds, facts)
                for _ in range(4):
                    fitting = steps_plainly(book, pool)
                    done, behind = first_play(book, pool, 1)
                    self.assertEqual(done, fitting[:1], (rule, pool))
                    pool = behind

    def test_ends(self):
        chance = random.Random(22)
        told = 0
        for _ in range(300):
            book = chance_book(chance)
            pool = chance_pool(chance, book, most=5)
            most = chance.randint(0, 12)
            want = ends_plainly(book, pool, most)
            if want is None:
                refused(self, TooGreat, ends, book, pool, most)
            else:
                self.assertEqual(ends(book, pool, most), want)
                told += len(want) > 0
        self.assertGreater(told, 50)

    def test_what_is_told_is_the_askers_own(self):
        book = book_of("rule r: take p(A), p(B); put p(A)")
        pool = pool_of(book, "p(a), p(b)")
        for ask in (lambda: play(book, pool, [0])[0], lambda: first_play(book, pool, 3)[0], lambda: ends(book, pool, 9)):
            one = ask()
            kept = list(one)
            one.clear()
            self.assertEqual(ask(), kept)


class SizeTest(unittest.TestCase):
    def test_great_pools_are_answered_without_a_long_wait(self):
        start = time.monotonic()
        book = book_of("rule r: take p(A), p(B); put p(B)\nrule s: keep e(A,B), e(B,C); put e(A,C)")
        row = [f"p(t{number})" for number in range(120)] + [f"e(N{k},N{k + 1})" for k in range(16)]
        pool = pool_of(book, ", ".join(row))
        done, behind = first_play(book, pool, 999)
        self.assertEqual(len(done), 119 + 16 * 17 // 2 - 16)
        self.assertEqual(done[0], (0, ("t0", "t1")))
        self.assertEqual(behind[0], (("p", ("t99",)),))
        done, behind = play(book, pool, list(range(1000, 1020)))
        self.assertEqual(len(done), 20)
        refused(self, TooGreat, ends, book, pool, 300)
        self.assertLess(time.monotonic() - start, 20)


if __name__ == "__main__":
    unittest.main()
