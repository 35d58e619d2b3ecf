import random
import time
import unittest

from helpers import chance_book, refused, vars_of
from poolrules.books import Book, Rule, book_text, read_book
from poolrules.errors import BadArgs, BadCall, BadTake, NoKind, NoLine, NoName, Twice
from poolrules.looks import Same, Unlike

KINDS = "passing p 1\npassing q 2\npassing n 0\nlasting e 2\nlasting m 0\n"
FULL = "rule r: take p(A), n; keep e(A,B), q(a,B); look A same B, A unlike b; put p(B), e(B,A), m; tell A = B, B = c"
WORDS = ("passing", "lasting", "rule", "take", "keep", "look", "put", "tell", "same", "unlike")


def rule_of(line, kinds=KINDS):
    return read_book(kinds + line).rules[0]


class LinesTest(unittest.TestCase):
    def test_a_book_without_lines(self):
        for text in ("", "\n", "   ", " \n\n   \n", "#", "# passing p 1", "  # rule r: take p\n#\n"):
            book = read_book(text)
            self.assertIsInstance(book, Book)
            self.assertEqual((book.kinds, book.rules), ([], []))
            self.assertEqual(book_text(book), "")

    def test_kinds(self):
        book = read_book("passing p 0\nlasting e 4\n  passing   q3   1  \nlasting x 2")
        self.assertEqual(book.kinds, [("p", 0, False), ("e", 4, True), ("q3", 1, False), ("x", 2, True)])
        self.assertEqual([type(part) for part in book.kinds[0]], [str, int, bool])
        self.assertEqual(book.rules, [])

    def test_lines_left_out(self):
        text = "\n# passing p 1\n   \npassing p 1\n   # rule r: take p(a)\n#rule\n\nrule r: take p(a)\n\n"
        book = read_book(text)
        self.assertEqual(book.kinds, [("p", 1, False)])
        self.assertEqual([rule.title for rule in book.rules], ["r"])
        self.assertEqual(vars_of(read_book(text.rstrip("\n"))), vars_of(book))

    def test_a_remark_must_stand_first(self):
        for line in ("passing p 1 # p", "passing p 1#", "passing #p 1", "rule r: take p(a) # taken"):
            refused(self, NoLine, read_book, line)

    def test_a_full_rule(self):
        rule = rule_of(FULL)
        self.assertIsInstance(rule, Rule)
        self.assertEqual(rule.title, "r")
        self.assertEqual(rule.taken, [("p", ("A",)), ("n", ())])
        self.assertEqual(rule.kept, [("e", ("A", "B")), ("q", ("a", "B"))])
        self.assertEqual([type(look) for look in rule.looks], [Same, Unlike])
        self.assertEqual([(look.left, look.right) for look in rule.looks], [("A", "B"), ("A", "b")])
        self.assertEqual(rule.given, [("p", ("B",)), ("e", ("B", "A")), ("m", ())])
        self.assertEqual(rule.told, [("A", "B"), ("B", "c")])
        self.assertEqual(rule.names, ["A", "B"])
        self.assertIs(rule.calls(), False)

    def test_parts_that_a_rule_has_not(self):
        rule = rule_of("rule r: take p(A)")
        self.assertEqual((rule.taken, rule.kept, rule.looks, rule.given, rule.told), ([("p", ("A",))], [], [], [], []))
        rule = rule_of("rule r: keep p(A)")
        self.assertEqual((rule.taken, rule.kept, rule.looks, rule.given, rule.told), ([], [("p", ("A",))], [], [], []))
        self.assertIs(rule.calls(), True)
        rule = rule_of("rule r: keep p(A), e(A,A); tell A = a")
        self.assertEqual((rule.looks, rule.given, rule.told), ([], [], [("A", "a")]))
        self.assertIs(rule_of("rule r: take n; put n").calls(), False)
        self.assertIs(rule_of("rule r: take n; keep m").calls(), False)
        self.assertIs(rule_of("rule r: keep m; put e(a,b)").calls(), True)

    def test_the_order_of_open_names(self):
        self.assertEqual(rule_of("rule r: take q(Z,b), q(B,Z); keep e(A,B), e(Y,X)").names, ["Z", "B", "A", "Y", "X"])
        self.assertEqual(rule_of("rule r: take p(A), p(A); keep e(a,A)").names, ["A"])
        self.assertEqual(rule_of("rule r: take p(a), n; keep m").names, [])

    def test_done_with_brackets_in_a_rule(self):
        rule = rule_of("rule r: take n ( ) , n(); put m()")
        self.assertEqual((rule.taken, rule.given), ([("n", ()), ("n", ())], [("m", ())]))

    def test_kinds_behind_the_rules_that_use_them(self):
        rule = "rule r: take p(A); put e(A,A)\n"
        one = read_book("passing p 1\nlasting e 2\n" + rule)
        for text in (rule + "passing p 1\nlasting e 2", "passing p 1\n" + rule + "lasting e 2"):
            self.assertEqual(vars_of(read_book(text)), vars_of(one))

    def test_a_kind_and_a_rule_of_one_name(self):
        book = read_book("passing p 0\nrule p: take p\nrule q: take p; put q\npassing q 0")
        self.assertEqual([rule.title for rule in book.rules], ["p", "q"])
        self.assertEqual([kind[0] for kind in book.kinds], ["p", "q"])

    def test_words_of_lines_as_names(self):
        for word in WORDS:
            with self.subTest(word):
                book = read_book(
                    f"passing {word} 1\nrule {word}: take {word}({word}); keep {word}(A); "
                    f"look {word} same {word}, A unlike {word}; put {word}({word}); tell {word} = A")
                rule = book.rules[0]
                fact = (word, (word,))
                self.assertEqual((book.kinds, rule.title), ([(word, 1, False)], word))
                self.assertEqual((rule.taken, rule.kept, rule.given), ([fact], [(word, ("A",))], [fact]))
                self.assertEqual(
                    [(look.left, look.word(), look.right) for look in rule.looks],
                    [(word, "same", word), ("A", "unlike", word)])
                self.assertEqual(rule.told, [(word, "A")])
                book = read_book(f"lasting {word} 0\nrule {word}: keep {word}, {word}; put {word}, {word}")
                self.assertEqual(book.rules[0].kept, [(word, ()), (word, ())])

    def test_words_of_lines_parted_by_their_place(self):
        book = read_book("passing take 0\nlasting keep 0\nrule r: take take, take; keep keep; put keep, take")
        self.assertEqual(book.rules[0].given, [("keep", ()), ("take", ())])
        rule = rule_of("rule r: take n; look same unlike unlike, unlike same same; tell tell = same")
        self.assertEqual(
            [(look.left, look.word(), look.right) for look in rule.looks],
            [("same", "unlike", "unlike"), ("unlike", "same", "same")])


class BlanksTest(unittest.TestCase):
    def spread(self, chance, line):
        found = []
        for piece in line.replace("(", " ( ").replace(")", " ) ").replace(",", " , ").replace(":", " : ").replace(
                ";", " ; ").replace("=", " = ").split():
            least = 1 if found and found[-1][-1].isalnum() and piece[0].isalnum() else 0
            found += [" " * chance.choice((least, least, 1, 2, 5)), piece]
        return "".join(found) + " " * chance.choice((0, 0, 3))

    def test_blanks_more_and_fewer(self):
        chance = random.Random(5)
        lines = (KINDS + FULL + "\nrule s: keep e(A,b); tell A = b").split("\n")
        want = vars_of(read_book("\n".join(lines)))
        for _ in range(200):
            self.assertEqual(vars_of(read_book("\n".join(self.spread(chance, line) for line in lines))), want)

    def test_no_blanks_where_signs_stand(self):
        rule = rule_of("rule r:take p(A),n;keep e(A,B);look A same B,A unlike b;put p(B);tell A=B,B=c")
        self.assertEqual(rule.told, [("A", "B"), ("B", "c")])
        self.assertEqual(len(rule.looks), 2)

    def test_a_line_end_is_no_blank(self):
        for text in ("passing p\n1", "passing\np 1", "passing p 1\nrule r:\ntake p(a)", "passing p 1\nrule r: take p(\na)"):
            refused(self, NoLine, read_book, text)


class NoLineTest(unittest.TestCase):
    def test_kinds(self):
        for line in (
            "passing", "passing p", "passing p 5", "passing p 9", "passing p 01", "passing p 10", "passing p -1",
            "passing p one", "passing p 1 1", "passing p 1,", "passing p: 1", "passing p(1)", "passing P 1",
            "passing 7 1", "passing 7p 1", "passing p1", "passingp 1", "Passing p 1", "passing, p 1", "pass p 1",
            "lasting", "lasting e", "lasting e 5", "lasting E 1", "lasting e 1 lasting f 1", "p 1", "1", "p", "kind p 1",
            "passing abcdefghijklm 1", "passing p 1;", "passing p_1 1", "passing p 1.", "=", ":", ";", "!", "passing p$ 1",
            "passing p A",
        ):
            with self.subTest(line):
                refused(self, NoLine, read_book, line)
        self.assertEqual(read_book("passing abcdefghijkl 1").kinds, [("abcdefghijkl", 1, False)])

    def test_rules(self):
        for line in (
            "rule", "rule r", "rule r:", "rule r: ;", "rule: take n", "rule r take n", "rule R: take n", "rule 7: take n",
            "rule r:: take n", "rule r: take", "rule r: keep", "rule r: take n;", "rule r: take n;; keep n",
            "rule r: ; take n", "rule r: look a same a", "rule r: put m", "rule r: tell a = b",
            "rule r: look a same a; put m", "rule r: take n; take n", "rule r: keep n; take n", "rule r: take n; put n; keep n",
            "rule r: take n; look a same b; keep n", "rule r: take n; tell a = b; put n", "rule r: take n; put n; put n",
            "rule r: take n; put n; look a same b", "rule r: take n keep n", "rule r: take n, keep e(a,b);",
            "rule r: n", "rule r: taken n", "rule r: take n,", "rule r: take ,n", "rule r: take n,, n", "rule r: take n n",
            "rule r: take p(a", "rule r: take p a)", "rule r: take p(a))", "rule r: take p(a,)", "rule r: take p(,a)",
            "rule r: take p(a b)", "rule r: take P(a)", "rule r: take 7(a)", "rule r: take p((a))", "rule r: take p(n(a))",
            "rule r: take p(a;b)", "rule r: take p(a=b)", "rule r: take n; look", "rule r: take n; look a",
            "rule r: take n; look a same", "rule r: take n; look same b", "rule r: take n; look a like b",
            "rule r: take n; look a same b c", "rule r: take n; look a same b,", "rule r: take n; look a = b",
            "rule r: take n; look a same b c same d", "rule r: take n; look (a same b)", "rule r: take n; look a Same b",
            "rule r: take n; tell", "rule r: take n; tell a", "rule r: take n; tell a =", "rule r: take n; tell = b",
            "rule r: take n; tell a b", "rule r: take n; tell a == b", "rule r: take n; tell a = b = c",
            "rule r: take n; tell a = b,", "rule r: take n; tell a same b", "rule r: take n; tell (a = b)",
            "rule r: take n; put", "rule r: take n; put n,", "rule r: take n; tell a = abcdefghijklm",
            "rule r: take n; look abcdefghijklm same a", "rule r: take n; tell abcdefghijklm = a",
            "rule r: take n; look a unlike abcdefghijklm", "rule r: take p(abcdefghijklm)", "rule abcdefghijklm: take n",
            "rule r: take abcdefghijklm", "rule r: take n; tell a - b", "rule r: take n. put n", "rule r: take n # n",
            "rule r s: take n", "r: take n", "ruler: take n", "rule r: take n; look , ", "rule r: take n; tell ,a = b",
            "rule r: TAKE n", "rule r: take n; look ( same ), a same b", "rule r: take n; tell ) = (",
        ):
            with self.subTest(line):
                refused(self, NoLine, read_book, KINDS + line)

    def test_deeds_of_sessions_are_no_lines_of_a_book(self):
        for line in ("pool", "pool n", "add n", "say A = b", "first 3", "quick 3", "ends 3", "weights", "clash", "stays 1"):
            refused(self, NoLine, read_book, KINDS + line)


class FirstGoTest(unittest.TestCase):
    def test_twice(self):
        for text in (
            "passing p 1\npassing p 1", "passing p 1\nlasting p 2", "lasting p 1\n\n# p\npassing q 1\nlasting p 1",
            KINDS + "rule r: take n\nrule r: take n", KINDS + "rule r: take n\nrule s: take n\nrule r: keep m",
        ):
            with self.subTest(text):
                refused(self, Twice, read_book, text)

    def test_whichever_line_stands_first(self):
        refused(self, Twice, read_book, "passing p 1\npassing p 1\nwrong")
        refused(self, NoLine, read_book, "passing p 1\nwrong\npassing p 1")
        refused(self, Twice, read_book, KINDS + "rule r: take n\nrule r: take n\npassing p")
        refused(self, NoLine, read_book, KINDS + "rule r: take n\npassing p\nrule r: take n")
        refused(self, NoLine, read_book, "passing p 1\npassing p 9")
        refused(self, NoLine, read_book, KINDS + "rule r: take n\nrule r: take n;")

    def test_the_first_go_is_over_ahead_of_the_second(self):
        for wrong in ("rule r: take x", "rule r: take p", "rule r: take m", "rule r: keep m; put n", "rule r: take n; put p(A)"):
            refused(self, NoLine, read_book, KINDS + wrong + "\nwrong")
            refused(self, Twice, read_book, KINDS + wrong + "\npassing p 1")
            refused(self, Twice, read_book, KINDS + wrong + "\nrule r: take n")


class SecondGoTest(unittest.TestCase):
    def check(self, rules, error):
        with self.subTest(rules):
            refused(self, error, read_book, KINDS + rules)

    def test_kinds_and_arguments(self):
        for part in ("take x; keep n", "take n, x", "take n; keep x(a)", "take n; put x", "keep x", "keep m; put x",
                     "take p(a); keep e(A,A); put r"):
            self.check("rule r: " + part, NoKind)
        for part in ("take p", "take n(a)", "take p(a,b)", "take n; keep e(a)", "take n; keep m(a)", "take n; put e(a,b,c)",
                     "take q(a,b,c,d,e)", "keep m; put m(a)", "take n; put p()"):
            self.check("rule r: " + part, BadArgs)

    def test_the_first_such_fact(self):
        self.check("rule r: take x, p", NoKind)
        self.check("rule r: take p, x", BadArgs)
        self.check("rule r: take n; keep p; put x", BadArgs)
        self.check("rule r: take n; keep x; put p", NoKind)
        self.check("rule r: take p; keep x", BadArgs)
        self.check("rule r: take x; keep p", NoKind)

    def test_bad_take(self):
        self.check("rule r: take m", BadTake)
        self.check("rule r: take n, e(A,B)", BadTake)

    def test_bad_call(self):
        self.check("rule r: keep m; put n", BadCall)
        self.check("rule r: keep p(A); put e(A,A), p(A)", BadCall)
        self.assertEqual(rule_of("rule r: take n; keep m; put n").given, [("n", ())])

    def test_no_name(self):
        for part in ("take n; put p(A)", "take p(A); put q(A,B)", "take p(A); look A same B", "take p(A); look B unlike a",
                     "take p(A); tell B = A", "take p(A); tell a = B", "keep m; put e(a,A)", "keep e(A,B); look a same C"):
            self.check("rule r: " + part, NoName)
        self.assertEqual(rule_of("rule r: take n; keep e(A,B); look B same a; put p(B); tell A = x").names, ["A", "B"])

    def test_the_order_in_a_rule(self):
        self.check("rule r: take m; put x", NoKind)
        self.check("rule r: take m; put p", BadArgs)
        self.check("rule r: take m; put p(A)", BadTake)
        self.check("rule r: take m, n(a)", BadArgs)
        self.check("rule r: take e(a)", BadArgs)
        self.check("rule r: keep m; put n, x", NoKind)
        self.check("rule r: keep m; put p", BadArgs)
        self.check("rule r: keep m; put p(A)", BadCall)
        self.check("rule r: keep m; look A same a; put n", BadCall)
        self.check("rule r: take n; look A same a; put x", NoKind)
        self.check("rule r: take m; look A same a", BadTake)

    def test_rule_by_rule(self):
        self.check("rule r: take n; put p(A)\nrule s: take x", NoName)
        self.check("rule r: take x\nrule s: take n; put p(A)", NoKind)
        self.check("rule r: keep m; put n\nrule s: take m", BadCall)
        self.check("rule r: take m\nrule s: keep m; put n", BadTake)
        self.check("rule r: take p\nrule s: take x", BadArgs)


class TextTest(unittest.TestCase):
    def test_kinds_stand_ahead_of_rules(self):
        book = read_book("rule s: take n\n# r\nlasting m 0\nrule r:keep m;tell a=a\n\npassing n 0\n")
        self.assertEqual(book_text(book), "lasting m 0\npassing n 0\nrule s: take n\nrule r: keep m; tell a = a")

    def test_all_parts(self):
        self.assertEqual(book_text(read_book(KINDS + FULL)), KINDS + FULL)
        text = KINDS + "rule r: take p(A), n; look A unlike b, A same a; tell A = B1, A = c".replace("B1", "A")
        self.assertEqual(book_text(read_book(text)), text)
        self.assertEqual(book_text(read_book("passing n 0\nrule r: take n()")), "passing n 0\nrule r: take n")

    def test_kinds_alone(self):
        self.assertEqual(book_text(read_book(" passing  p  1 \n")), "passing p 1")

    def test_written_books_are_read_again(self):
        chance = random.Random(3)
        for _ in range(200):
            book = chance_book(chance, rules=4, size=4)
            text = book_text(book)
            self.assertEqual(vars_of(read_book(text)), vars_of(book))
            self.assertEqual(book_text(read_book(text)), text)
            self.assertEqual(text, text.strip())

    def test_each_reading_is_the_askers_own(self):
        text = KINDS + FULL
        one = read_book(text)
        kept = vars_of(read_book(text))
        one.rules[0].taken.clear()
        one.kinds.clear()
        one.rules.clear()
        self.assertEqual(vars_of(read_book(text)), kept)


class SizeTest(unittest.TestCase):
    def test_great_texts_are_answered_without_a_long_wait(self):
        start = time.monotonic()
        kinds = "".join(f"passing k{number} 4\n" for number in range(4)) + "".join(f"lasting l{number} 4\n" for number in range(4))
        taken = ", ".join(["k0(A,B,C,D)", "k1(D,E,F,A)", "k2(a,b,A,B)", "k3(A,A,A,A)"])
        kept = ", ".join(f"l{number}(A,B,C,F)" for number in range(4))
        looks = "A same B, B unlike C, a same A, b unlike F"
        pairs = "A = B, C = a, D = E, F = F"
        rules = [f"rule r{n}: take {taken}; keep {kept}; look {looks}; put {taken}; tell {pairs}" for n in range(8)]
        text = kinds + "\n".join(rules)
        text += "\n" * (19000 - len(text)) + "#" * 900
        book = read_book(text)
        self.assertEqual(book_text(book), kinds + "\n".join(rules))
        refused(self, NoLine, read_book, "passing p 1\n" + " " * 19000 + "!")
        refused(self, NoLine, read_book, "rule r: take " + "n(" * 9000)
        refused(self, BadArgs, read_book, "passing n 4\nrule r: take n(" + "a," * 9000 + "a)")
        self.assertLess(time.monotonic() - start, 10)


if __name__ == "__main__":
    unittest.main()
