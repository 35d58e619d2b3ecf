import random
import time
import unittest

from helpers import (
    after_plainly, chance_book, chance_fact, refused, row_line, small_book, steps_plainly)
from poolrules.books import book_text, read_book
from poolrules.clash import clash
from poolrules.errors import BadArgs, BadCall, BadTake, NoKind, NoLine, NoName, NoPool, TooGreat, Twice
from poolrules.plays import ends, first_play
from poolrules.pools import moved, pool_text, start_pool
from poolrules.session import answers
from poolrules.tallies import breaker
from poolrules.weights import weights

KINDS = "passing p 1\npassing q 2\npassing n 0\nlasting e 2\nlasting m 0\n"
RULES = "rule go: take p(A); keep e(A,B); put p(B)\nrule sym: keep e(A,B); put e(B,A)\n"


class AnswersTest(unittest.TestCase):
    def check(self, text, want):
        with self.subTest(text):
            self.assertEqual(answers(text), want)

    def test_the_empty_text(self):
        for text in ("", "\n", "   \n\n# pool\n  # first 1", KINDS, KINDS + RULES, "pool", "pool\nsay X = a", KINDS + "pool n\nadd m"):
            self.check(text, [])

    def test_first(self):
        text = KINDS + "rule r: take p(A); put q(A,A)\n"
        self.check(text + "pool p(b), p(a)\nfirst 1", ["p(b), q(a,a); ; "])
        self.check(text + "pool p(b), p(a)\nfirst 1\nfirst 1\nfirst 1", ["p(b), q(a,a); ; "] + ["q(a,a), q(b,b); ; "] * 2)
        self.check(text + "pool p(b), p(a)\nfirst 0\nfirst 999", ["p(a), p(b); ; ", "q(a,a), q(b,b); ; "])
        self.check(text + "pool\nfirst 5", ["; ; "])

    def test_quick(self):
        text = KINDS + "rule r: take p(A); put q(A,A)\n"
        self.check(text + "pool p(b), p(a)\nquick 0\nquick 2\nquick 9", ["p(a), p(b); ; "] + ["q(a,a), q(b,b); ; "] * 2)
        self.check(text + "pool p(b), p(b)\nquick 1\nfirst 1", ["p(b), q(b,b); ; ", "q(b,b), q(b,b); ; "])

    def test_the_pool_goes_on(self):
        self.check(
            KINDS + RULES + "pool p(a), e(X1,a)\nfirst 0\nsay X1 = b\nadd n, n, e(X2,c)\nfirst 0\npool n\nfirst 0",
            ["p(a); e(X1,a); ", "n, n, p(a); e(X2,c), e(b,a); X1=b", "n; ; "])

    def test_the_pool_of_a_session_is_new_each_time(self):
        self.check(KINDS + "pool p(X)\nsay X = a\npool p(X)\nfirst 1", ["p(X); ; "])

    def test_written_pools(self):
        self.check(KINDS + "pool p(a), p(X1), e(a,b)\nsay X1 = a\nfirst 1", ["p(a), p(a); e(a,b); X1=a"])
        self.check(KINDS + "pool\nfirst 1\nsay Y = X, Z = c\nquick 1\nsay X = a, X = b\nfirst 1\nquick 1\nends 1",
                   ["; ; ", "; ; Y=X, Z=c", "broken", "broken", "broken"])

    def test_steps_that_break_the_pool(self):
        self.check(KINDS + "rule r: take q(A,B); tell A = B\npool q(a,b)\nfirst 3\nadd n\nfirst 1", ["broken", "broken"])
        self.check(KINDS + "rule r: take q(A,B); tell A = B\npool q(a,b)\nquick 3\nsay X = a\nquick 1", ["broken", "broken"])

    def test_ends(self):
        text = KINDS + "rule r: take p(A), p(B); put p(A)\n"
        self.check(text + "pool p(b), p(a)\nends 3\nends 2\nends 0\nends 999\nfirst 0",
                   ["p(a); ; | p(b); ; ".replace("; ; |", "; ;  |"), "too many", "too many", "p(a); ;  | p(b); ; ", "p(a), p(b); ; "])
        self.check(KINDS + "pool\nends 1\nends 0", ["; ; ", "too many"])

    def test_no_end(self):
        self.check(KINDS + "rule r: take n; put n\npool n\nends 1\nends 5", ["", ""])
        self.check(KINDS + "rule r: take n; put n, n\npool n\nends 50", ["too many"])

    def test_ends_with_the_broken_pool(self):
        self.check(KINDS + "rule r: take n; tell a = b\nrule s: take n\npool n\nends 9", ["; ;  | broken"])

    def test_weights_and_clash(self):
        self.check(KINDS + "weights\nclash", ["falls", "one end"])
        self.check(KINDS + "rule r: take n\nweights\nclash", ["falls", "one end"])
        self.check(KINDS + "rule r: take n; put m\nrule s: take n\nweights\nclash\nclash", ["falls", "two ends", "two ends"])
        self.check(KINDS + "rule r: take n; put n\nclash\nweights", ["round", "round"])

    def test_watches(self):
        text = KINDS + "rule r: take p(A); put q(A,A)\nrule s: take q(A,B); put p(A), n\n"
        self.check(text + "stays 1 1 0", ["kept"])
        self.check(text + "stays 1 1 1", ["broken by s"])
        self.check(text + "stays 2 1 0", ["broken by r"])
        self.check(text + "never grows 1 1 0\nnever grows 0 1 0\nnever grows 1 0 0", ["kept", "broken by r", "broken by s"])
        self.check(text + "never falls 1 1 1\nnever falls 1 0 0\nnever falls 0 1 0", ["kept", "broken by r", "broken by s"])
        self.check(text + f"stays 1{'0' * 59} 1{'0' * 59} 0\nnever grows -7 -7 -1", ["kept", "kept"])
        self.check("stays\nnever grows\nnever falls", ["kept"] * 3)
        self.check("lasting m 0\nrule r: keep m\nstays", ["kept"])

    def test_deeds_and_book_lines_in_any_turn(self):
        lines = (KINDS + RULES).strip().split("\n")
        deeds = ["pool p(a), e(a,b)", "first 1", "# a remark", "", "weights", "stays 1 0 0", "ends 20"]
        want = answers("\n".join(lines + deeds))
        self.assertEqual(answers("\n".join(deeds + lines)), want)
        chance = random.Random(111)
        for _ in range(30):
            places = sorted(chance.sample(range(len(lines) + len(deeds)), len(deeds)))
            mixed = []
            books = list(lines)
            rest = list(deeds)
            for place in range(len(lines) + len(deeds)):
                mixed.append(rest.pop(0) if place in places else books.pop(0))
            self.assertEqual(answers("\n".join(mixed)), want)

    def test_blanks(self):
        self.check(" passing  p  1 \n  pool   p ( a ) \n first  1 \n   stays   1  \n  never   grows  -1", ["p(a); ; ", "kept", "kept"])

    def test_words_of_deeds_as_names(self):
        for word in ("pool", "add", "say", "first", "quick", "ends", "weights", "clash", "stays", "never", "grows", "falls"):
            text = f"passing {word} 1\nrule {word}: take {word}({word})\npool {word}({word}), {word}(a)\nadd {word}(b)\nfirst 5\nweights"
            self.check(text, [f"{word}(a), {word}(b); ; ", "falls"])

    def test_what_is_told_is_the_askers_own(self):
        text = KINDS + "pool n\nfirst 1"
        answers(text).clear()
        self.assertEqual(answers(text), ["n; ; "])


class RefusalsTest(unittest.TestCase):
    def check(self, text, error):
        with self.subTest(text):
            refused(self, error, answers, text)

    def test_lines_at_fault(self):
        for line in ("x", "pool n,", "add", "say X", "first", "first 1000", "first 01", "ends -1", "weights 1", "stays 1 -0", "passing p",
                     "rule r: take", "never 1", "pool 7", "clash n", "first 1 2", "quick x", "stays " + "1" * 61):
            self.check(line, NoLine)
            self.check(KINDS + "pool n\n" + line + "\nfirst 1", NoLine)

    def test_names_told_twice(self):
        self.check("passing p 1\npool p(a)\nlasting p 1", Twice)
        self.check(KINDS + "rule r: take n\nweights\nrule r: take n", Twice)

    def test_whichever_such_line_stands_first(self):
        self.check("passing p 1\npassing p 1\nx", Twice)
        self.check("passing p 1\nx\npassing p 1", NoLine)
        self.check("passing p 1\nfirst 1000\npassing p 1", NoLine)
        self.check("passing p 1\nlasting p 1\nfirst 1000", Twice)

    def test_a_line_at_fault_behind_a_deed_that_would_be_refused(self):
        for deed in ("first 1", "pool x", "add n", "stays 1", "pool p"):
            self.check(KINDS + deed + "\nx", NoLine)
            self.check(KINDS + deed + "\npassing p 1", Twice)

    def test_a_book_at_fault_in_its_second_go(self):
        for rule, error in (
            ("rule r: take x", NoKind), ("rule r: take p", BadArgs), ("rule r: take m", BadTake), ("rule r: keep m; put n", BadCall),
            ("rule r: take n; put p(A)", NoName),
        ):
            self.check("first 1\n" + KINDS + rule, error)
            self.check(KINDS + "pool x\nstays 1\n" + rule, error)
            self.check(KINDS + rule + "\nx", NoLine)
            self.check(KINDS + rule + "\nlasting m 0", Twice)

    def test_ahead_of_any_pool(self):
        for deed in ("add n", "say X = a", "first 1", "quick 1", "ends 1", "first 0", "ends 0"):
            self.check(KINDS + deed, NoPool)
            self.check(KINDS + deed + "\npool n", NoPool)
            self.check(KINDS + "weights\nstays 0 0 0\n" + deed + "\nstays 1", NoPool)
        self.check("add x", NoPool)
        self.check("add x(a), y\npool n", NoPool)
        self.check(KINDS + "add p", NoPool)

    def test_facts_at_fault(self):
        for before in ("", "pool n\n", "pool\nsay a = b\n"):
            for row, error in (("x", NoKind), ("p", BadArgs), ("n, x, p", NoKind), ("n, p, x", BadArgs), ("m(a)", BadArgs), ("e(a)", BadArgs)):
                self.check(KINDS + before + "pool " + row, error)
                if before:
                    self.check(KINDS + before + "add " + row, error)

    def test_watches_with_too_many_and_too_few_numbers(self):
        for how in ("stays", "never grows", "never falls"):
            for numbers in ("", " 1", " 1 1", " 1 1 1 1", " 0 0 0 0 0 0 0 0 0"):
                self.check(KINDS + how + numbers, NoLine)
            self.check(how + " 1", NoLine)
        self.check("lasting m 0\nstays 1", NoLine)

    def test_the_first_refused_deed_ends_it(self):
        self.check(KINDS + "stays 1\nfirst 1", NoLine)
        self.check(KINDS + "first 1\nstays 1", NoPool)
        self.check(KINDS + "pool x\nadd p", NoKind)
        self.check(KINDS + "pool n\nadd p\npool x", BadArgs)
        self.check(KINDS + "pool n\nfirst 1\nstays 1\nadd x", NoLine)

    def test_no_other_deed_wants_a_pool(self):
        self.assertEqual(answers(KINDS + "weights\nclash\nstays 0 0 0"), ["falls", "one end", "kept"])


class ChanceTest(unittest.TestCase):
    def test_sessions_agree_with_the_functions(self):
        chance = random.Random(112)
        for _ in range(150):
            book = chance_book(chance)
            width = len([kind for kind in book.kinds if not kind[2]])
            lines = [book_text(book)]
            want = []
            pool = None
            for _ in range(6):
                facts = [chance_fact(chance, book.kinds, ("a", "b", "X", "Y")) for _ in range(chance.randint(1, 4))]
                numbers = [chance.randint(-3, 3) for _ in range(width)]
                deed = chance.choice(("pool", "add", "say", "first", "ends", "weights", "stays", "never grows", "never falls"))
                if pool is None or deed == "pool":
                    lines.append("pool " + row_line(facts))
                    pool = start_pool(book.kinds, facts)
                elif deed == "add":
                    lines.append("add " + row_line(facts))
                    pool = moved(book.kinds, pool, [], facts, [])
                elif deed == "say":
                    pair = (chance.choice("abXYZ"), chance.choice("XYZ"))
                    lines.append(f"say {pair[0]} = {pair[1]}")
                    pool = moved(book.kinds, pool, [], [], [pair])
                elif deed == "first":
                    lines.append("first 4")
                    pool = first_play(book, pool, 4)[1]
                    want.append(pool_text(pool))
                elif deed == "ends":
                    lines.append("ends 8")
                    try:
                        want.append(" | ".join(pool_text(end) for end in ends(book, pool, 8)))
                    except TooGreat:
                        want.append("too many")
                elif deed == "weights":
                    lines.append("weights")
                    want.append(weights(book)[0])
                else:
                    lines.append(deed + "".join(f" {number}" for number in numbers))
                    number = breaker(book, deed, numbers)
                    want.append("kept" if number is None else "broken by " + book.rules[number].title)
            self.assertEqual(answers("\n".join(lines)), want, lines)

    def test_quick_goes_by_fitting_steps(self):
        chance = random.Random(113)
        for _ in range(150):
            book = chance_book(chance)
            facts = [chance_fact(chance, book.kinds, ("a", "b", "X", "Y")) for _ in range(chance.randint(1, 5))]
            most = chance.randint(0, 3)
            told = answers(book_text(book) + f"\npool {row_line(facts)}\nquick {most}")
            level = {start_pool(book.kinds, facts)}
            done = set()
            for turn in range(most + 1):
                done |= {pool_text(pool) for pool in level if turn == most or not steps_plainly(book, pool)}
                level = {after_plainly(book, pool, step) for pool in level for step in steps_plainly(book, pool)}
            self.assertIn(told[0], done)
            self.assertEqual(len(told), 1)

    def test_clash(self):
        chance = random.Random(114)
        seen = set()
        for _ in range(150):
            book = small_book(chance)
            told = answers(book_text(book) + "\nclash")
            if weights(book)[0] == "round":
                self.assertEqual(told, ["round"])
            else:
                self.assertEqual(told, ["one end" if clash(book) is None else "two ends"])
            seen.add(told[0])
        self.assertEqual(seen, {"round", "one end", "two ends"})


class SizeTest(unittest.TestCase):
    def test_long_sessions_are_answered_without_a_long_wait(self):
        start = time.monotonic()
        rules = "rule go: take p(A); keep e(A,B); put q(A,B)\nrule join: keep e(A,B), e(B,C); put e(A,C)\nrule less: take q(A,B), q(A,C); put q(A,B)\n"
        row = [f"p(t{k % 30})" for k in range(150)] + [f"e(t{k},t{k + 1})" for k in range(14)] + ["p(N" + str(k) + ")" for k in range(60)]
        text = KINDS + rules + "pool " + ", ".join(row) + "\nfirst 999\nquick 999\nends 9\n"
        deeds = ["quick 9", "clash", "first 9", "ends 99", "weights", "stays 1 1 1"]
        while len(text) < 19000:
            text += "\n".join(deeds) + "\n"
        found = answers(text)
        self.assertEqual(found[0], found[1])
        self.assertEqual(set(found[3:]), {found[0], "two ends", "falls", "broken by less"})
        self.assertEqual(read_book(KINDS + rules).rules[2].title, "less")
        self.assertLess(time.monotonic() - start, 30)


if __name__ == "__main__":
    unittest.main()
