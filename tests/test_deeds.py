import random
import unittest

from helpers import refused
from poolrules.deeds import read_deed
from poolrules.errors import NoLine
from poolrules.reader import is_book_line

SIXTY = "1" + "0" * 59


class FormsTest(unittest.TestCase):
    def check(self, line, want):
        with self.subTest(line):
            self.assertEqual(read_deed(line), want)
            self.assertIs(is_book_line(line), False)

    def test_pool_and_add(self):
        facts = [("p", ("a", "X")), ("n", ())]
        for word in ("pool", "add"):
            for row in ("p(a,X), n", "p(a,X),n()", "  p ( a , X )  ,  n  ", "p(a,X),n"):
                self.check(word + " " + row, (word, facts))
            self.check(f"   {word}   n", (word, [("n", ())]))
            self.check(f"{word} {word}", (word, [(word, ())]))
        for line in ("pool", "pool  ", "   pool"):
            self.check(line, ("pool", []))

    def test_say(self):
        for line in ("say X = a", "say X=a", "  say   X   =  a  "):
            self.check(line, ("say", [("X", "a")]))
        self.check("say X=a,Y = X , b=c", ("say", [("X", "a"), ("Y", "X"), ("b", "c")]))
        self.check("say say = say", ("say", [("say", "say")]))

    def test_numbers_of_steps(self):
        for word in ("first", "quick", "ends"):
            for text, number in (("0", 0), ("7", 7), ("10", 10), ("999", 999), ("100", 100)):
                self.check(f"{word} {text}", (word, number))
                self.check(f"  {word}    {text}  ", (word, number))

    def test_words_alone(self):
        for word in ("weights", "clash"):
            for line in (word, "  " + word, word + "   "):
                self.check(line, (word, None))

    def test_watches(self):
        for how in ("stays", "never grows", "never falls"):
            self.check(how, (how, []))
            self.check(how + "  ", (how, []))
            self.check(how + " 1", (how, [1]))
            self.check("  " + how.replace(" ", "   ") + "   0   -7  12 ", (how, [0, -7, 12]))
            self.check(f"{how} {SIXTY} -{SIXTY} {'9' * 60}", (how, [10 ** 59, -10 ** 59, 10 ** 60 - 1]))
            self.check(how + " 1" * 9, (how, [1] * 9))

    def test_blanks_by_chance(self):
        chance = random.Random(71)
        for pieces, want in (
            ("add p ( a , X ) , n", ("add", [("p", ("a", "X")), ("n", ())])), ("say X = a , Y = Z", ("say", [("X", "a"), ("Y", "Z")])),
        ):
            for _ in range(100):
                line = ""
                for piece in pieces.split():
                    least = 1 if line and line[-1].isalnum() and piece[0].isalnum() else 0
                    line += " " * chance.choice((least, least, 1, 3)) + piece
                self.check(line + " " * chance.choice((0, 2)), want)


class NoLineTest(unittest.TestCase):
    def test_lines_that_are_near_a_form_but_none(self):
        for line in (
            "pool n,", "pool ,n", "pool n n", "pool p(a", "pool P(a)", "pool n; n", "pool(n)", "pool: n", "pooln", "Pool n", "pool =",
            "pool p(abcdefghijklm)", "pool n # n", "pool n.", "add", "add  ", "add n,", "add ,", "add X", "add 7", "added n", "add n m",
            "say", "say X", "say X =", "say = X", "say X a", "say X == a", "say X = a,", "say X = a Y = b", "say X = a = b",
            "say p(a) = b", "say X same a", "say X = abcdefghijklm", "say X - a", "saying X = a",
            "first", "first -1", "first 01", "first 00", "first 1000", "first 1 2", "first n", "first 1,", "first1", "first +1", "first 1.",
            "first 0x1", "first one", "first (1)", "first A", "quick", "quick 1000", "quick 007", "quick -0", "quick 5 5", "quick5",
            "ends", "ends 1000", "ends 09", "ends -3", "ends 1 1", "ends x", "end 3",
            "weights 1", "weights n", "weight", "Weights", "weights,", "clash 1", "clash n", "clashes", "clash;", "weights clash",
            "stays -0", "stays 01", "stays -01", "stays 00", "stays +1", "stays - 1", "stays 1,2", "stays 1, 2", "stays 1 2,", "stays a",
            "stays 1.0", "stays --1", "stays 1-", "stays -", "stays 1-1", "stays,1", "stays(1)", "stays1", "stays-1", "stay 1",
            "stays " + "1" * 61, "stays -" + "1" * 61, "stays 0x1", "stays X", "stays 1e3", "stays 1_0",
            "never", "never 1", "never grow 1", "never grows, 1", "nevergrows 1", "never stays 1", "never growsa", "never grows1",
            "never grows -0", "never falls 1,", "never falls 02", "never  fall 1", "grows 1", "falls 1", "never,grows 1", "Never grows 1",
            "never grows " + "9" * 61, "never falls never falls", "stays stays 1", "never grows grows 1",
            "x", "7", "=", ",", "!", "n(a)", "pool pool n", "first first 1", "kind p 1", "-1", "'", "play 3",
        ):
            with self.subTest(line):
                refused(self, NoLine, read_deed, line)

    def test_lines_of_a_book_are_no_deeds(self):
        for line in ("passing p 1", "lasting e 2", "rule r: take n", "  rule  r:take n", "passing", "rule:", "rule", "passing,", "lasting -1"):
            with self.subTest(line):
                self.assertIs(is_book_line(line), True)
        for line in ("passingp 1", "rules", "lastingly", "Rule r: take n", "#rule", "p rule", "=rule", "7", "!"):
            self.assertIs(is_book_line(line), False)


if __name__ == "__main__":
    unittest.main()
