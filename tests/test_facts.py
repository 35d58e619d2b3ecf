import time
import unittest

from poolrules.errors import NoLine
from poolrules.facts import fact_text, facts_text, is_open, is_word, read_fact, read_facts

SIGNS = [chr(code) for code in range(32, 127)] + ["\n"]
SMALL = "abcdefghijklmnopqrstuvwxyz"
FIGURES = "0123456789"
GREAT = SMALL.upper()


class NamesTest(unittest.TestCase):
    def check(self, text, word, is_it_open):
        with self.subTest(text):
            self.assertIs(is_word(text), word)
            self.assertIs(is_open(text), is_it_open)

    def test_every_sign_alone(self):
        for sign in SIGNS:
            self.check(sign, sign in SMALL + FIGURES, sign in GREAT)

    def test_every_sign_behind_the_first(self):
        for sign in SIGNS:
            in_name = sign in SMALL + FIGURES + GREAT
            self.check("a" + sign, in_name, False)
            self.check("7" + sign, in_name, False)
            self.check("X" + sign, False, in_name)
            self.check("X" + sign + "1", False, in_name)

    def test_lengths(self):
        self.check("", False, False)
        for first in "a7X":
            for length in (1, 2, 11, 12):
                self.check(first + "b" * (length - 1), first != "X", first == "X")
            for length in (13, 14, 20000):
                self.check(first + "b" * (length - 1), False, False)

    def test_letters_of_other_alphabets_are_none(self):
        for text in ("\u00e9", "\u00c9", "a\u00e9", "\u0663", "x\u00b2"):
            self.check(text, False, False)


class WritingTest(unittest.TestCase):
    def test_facts(self):
        self.assertEqual(fact_text(("edge", ("a", "X1"))), "edge(a,X1)")
        self.assertEqual(fact_text(("done", ())), "done")
        self.assertEqual(fact_text(("token", ("7",))), "token(7)")
        self.assertEqual(fact_text(("four", ("a", "B", "3", "D4"))), "four(a,B,3,D4)")

    def test_rows(self):
        row = [("edge", ("a", "X1")), ("done", ()), ("done", ())]
        self.assertEqual(facts_text(row), "edge(a,X1), done, done")
        self.assertEqual(facts_text(tuple(row)), "edge(a,X1), done, done")
        self.assertEqual(facts_text([("done", ())]), "done")
        self.assertEqual(facts_text([]), "")
        self.assertEqual(facts_text(()), "")


class ReadingTest(unittest.TestCase):
    def check_fact(self, text, fact):
        with self.subTest(text):
            self.assertEqual(read_fact(text), fact)
            self.assertEqual(read_facts(text), [fact])

    def refuse_fact(self, text):
        with self.subTest(text[:40]), self.assertRaises(NoLine):
            read_fact(text)

    def refuse_both(self, text):
        self.refuse_fact(text)
        with self.subTest(text[:40]), self.assertRaises(NoLine):
            read_facts(text)

    def test_written_facts(self):
        self.check_fact("edge(a,X1)", ("edge", ("a", "X1")))
        self.check_fact("done", ("done", ()))
        self.check_fact("token(7)", ("token", ("7",)))
        self.check_fact("p(a,a,A,1)", ("p", ("a", "a", "A", "1")))

    def test_the_parts_are_tuples(self):
        fact = read_fact("edge(a,X1)")
        self.assertIs(type(fact), tuple)
        self.assertIs(type(fact[1]), tuple)
        row = read_facts("edge(a,X1), done")
        self.assertIs(type(row), list)
        self.assertEqual([type(fact) for fact in row], [tuple, tuple])

    def test_blanks_at_every_place(self):
        parts = ["edge", "(", "a", ",", "X1", ")"]
        for width in (1, 2, 5):
            for place in range(len(parts) + 1):
                text = "".join(parts[:place]) + " " * width + "".join(parts[place:])
                self.check_fact(text, ("edge", ("a", "X1")))
            self.check_fact((" " * width).join([""] + parts + [""]), ("edge", ("a", "X1")))
        self.check_fact(" done ", ("done", ()))

    def test_the_fact_without_arguments(self):
        for text in ("done", "done()", "done ()", "done( )", " done ( ) ", "done   (   )"):
            self.check_fact(text, ("done", ()))

    def test_more_arguments_than_a_kind_has(self):
        self.check_fact("p(a,b,c,d,e)", ("p", ("a", "b", "c", "d", "e")))

    def test_words_of_the_books(self):
        for word in ("passing", "lasting", "rule", "take", "keep", "look", "put", "tell", "same", "unlike"):
            self.check_fact(word + "(" + word + ")", (word, (word,)))

    def test_rows(self):
        row = [("edge", ("a", "X1")), ("done", ()), ("done", ())]
        for text in ("edge(a,X1), done, done", "edge(a,X1),done,done()", "  edge ( a ,X1 ) ,done  ,  done  "):
            with self.subTest(text):
                self.assertEqual(read_facts(text), row)

    def test_the_empty_row(self):
        for text in ("", " ", "     ", " " * 20000):
            self.assertEqual(read_facts(text), [])
            self.refuse_fact(text)

    def test_a_row_is_no_fact(self):
        self.refuse_fact("done,done")
        self.refuse_fact("done, edge(a,b)")

    def test_every_row_is_new(self):
        row = read_facts("done, done")
        row.append(("more", ()))
        self.assertEqual(read_facts("done, done"), [("done", ()), ("done", ())])
        empty = read_facts("")
        empty.append(("more", ()))
        self.assertEqual(read_facts(""), [])

    def test_lengths_of_names(self):
        for length in (1, 11, 12):
            kind = "k" + "B" * (length - 1)
            name = "X" + "2" * (length - 1)
            self.check_fact(kind + "(" + name + ")", (kind, (name,)))
        for length in (13, 14, 19000):
            self.refuse_both("k" * length)
            self.refuse_both("k" * length + "(a)")
            self.refuse_both("k(" + "a" * length + ")")
            self.refuse_both("k(" + "X" * length + ",a)")
            self.refuse_both("k(a," + "1" * length + ")")

    def test_kinds_begin_with_a_small_letter(self):
        for text in ("Done", "1done", "Done(a)", "1", "X", "7(a)", "done, Done", "done, 1done(a)"):
            self.refuse_both(text)

    def test_line_ends_are_no_blanks(self):
        for text in ("done", "edge(a,X1)", "edge ( a , X1 )"):
            for place in range(len(text) + 1):
                self.refuse_both(text[:place] + "\n" + text[place:])
        for text in ("\n", " \n ", "\ndone", "done\n", "done,\ndone", "done\n,done"):
            self.refuse_both(text)

    def test_other_signs_are_refused_everywhere(self):
        others = [sign for sign in SIGNS if not sign.isalnum() and sign not in " (),"]
        for sign in others + ["\t", "\r", "\u00a0", "\u00e9"]:
            for text in (sign, sign + "done", "done" + sign, "ed" + sign + "ge(a)", "edge(a" + sign + ")"):
                self.refuse_both(text)

    def test_wrong_forms(self):
        for text in (
            "(", ")", ",", "()", "(a)", "a b", "edge(a b)", "ed ge(a)", "edge(a", "edge a)", "edge)", "edge(",
            "edge(a,", "edge(a,)", "edge(,a)", "edge(,)", "edge(a,,b)", "edge(a))", "edge((a)", "edge((a))",
            "edge(f(a))", "edge(a)(b)", "edge()()", "edge(a)b", "edge(a) b", "edge((", "a,", ",a", "a,,b",
            "a b c", "edge(a b c)", "edge(a(b)", "edge(a(b(c)", "edge(a)b c", "edge(a))done", "a(b)(c", "a)b", "a(b,c d,e)",
            "a, ,b", "a, b,", "edge(a) edge(b)", "edge(a);done", "X=a", ", ,",
        ):
            self.refuse_both(text)

    def test_reading_undoes_writing(self):
        row = [("edge", ("a", "X1")), ("done", ()), ("p", ("1", "B", "c", "dD4"))]
        self.assertEqual(read_facts(facts_text(row)), row)
        for fact in row:
            self.assertEqual(read_fact(fact_text(fact)), fact)


class SizeTest(unittest.TestCase):
    def test_long_texts_are_answered_without_a_long_wait(self):
        start = time.monotonic()
        self.assertEqual(len(read_facts(",".join(["a"] * 10000))), 10000)
        self.assertEqual(len(read_fact("a(" + ",".join(["b"] * 9990) + ")")[1]), 9990)
        self.assertEqual(read_fact(" " * 19999 + "a"), ("a", ()))
        for text in ("a" * 20000, "(" * 20000, "a " * 10000, "a(" * 10000, "," * 20000, " " * 19999 + "!"):
            with self.assertRaises(NoLine):
                read_facts(text)
            with self.assertRaises(NoLine):
                read_fact(text)
        self.assertLess(time.monotonic() - start, 10)


if __name__ == "__main__":
    unittest.main()
