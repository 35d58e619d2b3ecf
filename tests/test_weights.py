import random
import time
import unittest

from helpers import chance_book, vars_of
from poolrules.books import book_text, read_book
from poolrules.tallies import effects
from poolrules.weights import weights


def counted_book(chance, kinds, rules, most, falling):
    """A book by numbers alone: so many facts of each kind taken and put."""
    lines = [f"passing k{number} 0" for number in range(kinds)] + ["lasting m 0"]
    for number in range(rules):
        if not kinds or chance.random() < 0.1:
            lines.append(f"rule r{number}: keep m; put m")
            continue
        taken = [f"k{chance.randrange(kinds)}" for _ in range(chance.randint(1, most))]
        given = [f"k{chance.randrange(kinds)}" for _ in range(chance.randint(0, most))]
        if falling:
            given = [kind for kind in given if kind < max(taken)]
        lines.append(f"rule r{number}: take {', '.join(taken)}" + ("; put " + ", ".join(given) if given else ""))
    return read_book("\n".join(lines))


class WeightsTest(unittest.TestCase):
    def check(self, book):
        """[20]'s own words."""
        kept = vars_of(book)
        told = weights(book)
        self.assertIsInstance(told, tuple)
        how, numbers = told
        rows = effects(book)
        self.assertIsInstance(numbers, list)
        for number in numbers:
            self.assertIs(type(number), int)
            self.assertGreaterEqual(number, 0)
            self.assertLess(number, 10 ** 60)
        if how == "falls":
            self.assertEqual(len(numbers), len([kind for kind in book.kinds if not kind[2]]))
            for rule, row in zip(book.rules, rows):
                if rule.taken:
                    self.assertLess(sum(a * b for a, b in zip(row, numbers)), 0, book_text(book))
        else:
            self.assertEqual(how, "round")
            self.assertEqual(len(numbers), len(book.rules))
            self.assertTrue(any(numbers))
            for rule, number in zip(book.rules, numbers):
                if not rule.taken:
                    self.assertEqual(number, 0)
            for column in zip(*rows):
                self.assertGreaterEqual(sum(a * b for a, b in zip(column, numbers)), 0, book_text(book))
        self.assertEqual(vars_of(book), kept)
        return how

    def told(self, text):
        return self.check(read_book(text))

    def test_books_that_fall(self):
        kinds = "passing p 1\npassing q 0\nlasting m 0\n"
        self.assertEqual(self.told(kinds + "rule r: take p(A)"), "falls")
        self.assertEqual(self.told(kinds + "rule r: take p(A); put q, q, q, q"), "falls")
        self.assertEqual(self.told(kinds + "rule r: take p(A); put q, q\nrule s: take q, q, q; put p(a)"), "falls")
        self.assertEqual(self.told(kinds + "rule r: take p(A), p(B); put p(A), m\nrule s: take q; put m"), "falls")

    def test_rounds(self):
        kinds = "passing p 1\npassing q 0\nlasting m 0\n"
        self.assertEqual(self.told(kinds + "rule r: take p(A); put p(A)"), "round")
        self.assertEqual(self.told(kinds + "rule r: take q; put q, q"), "round")
        self.assertEqual(self.told(kinds + "rule r: take p(A); put q, q\nrule s: take q, q; put p(a)"), "round")
        self.assertEqual(self.told(kinds + "rule r: take q\nrule s: take p(A)\nrule t: take p(A), q; put p(A), q"), "round")

    def test_rules_that_can_never_fit_count_too(self):
        self.assertEqual(self.told("passing p 1\nrule r: take p(A); look a same b; put p(A)"), "round")

    def test_kept_facts_count_nothing(self):
        self.assertEqual(self.told("passing p 0\npassing q 0\nrule r: take p; keep q; put p"), "round")
        self.assertEqual(self.told("passing p 0\npassing q 0\nrule r: take p; keep q"), "falls")

    def test_books_without_kinds_rules_or_taking_rules(self):
        self.assertEqual(weights(read_book("")), ("falls", []))
        self.assertEqual(weights(read_book("lasting m 0\nrule r: keep m; put m")), ("falls", []))
        self.assertEqual(self.told("passing p 1\npassing q 0"), "falls")
        self.assertEqual(self.told("passing p 1\nlasting m 0\nrule r: keep p(A); put m\nrule s: keep m"), "falls")

    def test_call_ins_among_taking_rules(self):
        book = read_book("passing p 0\nlasting m 0\nrule r: keep m; put m\nrule s: take p; put p\nrule t: keep p; put m")
        self.assertEqual(self.check(book), "round")
        self.assertGreater(weights(book)[1][1], 0)

    def test_chains_with_great_numbers(self):
        for turn in (False, True):
            lines = [f"passing k{number} 0" for number in range(8)]
            lines += [f"rule r{k}: take k{k}" + (f"; put {', '.join(['k' + str(k - 1)] * 4)}" if k else "") for k in range(8)]
            if turn:
                lines[8] += "; put k7"
            self.assertEqual(self.told("\n".join(lines)), "round" if turn else "falls")
        lines = [f"passing k{number} 0" for number in range(8)]
        lines += [f"rule r{k}: take {', '.join(['k' + str(k)] * 4)}; put {', '.join(['k' + str((k + 1) % 8)] * 3)}" for k in range(8)]
        self.assertEqual(self.told("\n".join(lines)), "falls")

    def test_many_books(self):
        chance = random.Random(51)
        start = time.monotonic()
        count = {"falls": 0, "round": 0}
        for turn in range(1500):
            book = counted_book(chance, chance.randint(0, 8), chance.randint(0, 8), 4, turn % 3 == 0)
            count[self.check(book)] += 1
        for _ in range(200):
            self.check(chance_book(chance, rules=5, size=3))
        self.assertGreater(min(count.values()), 200)
        self.assertLess(time.monotonic() - start, 30)

    def test_what_is_told_is_the_askers_own(self):
        for text in ("passing p 0\nrule r: take p", "passing p 0\nrule r: take p; put p"):
            book = read_book(text)
            told = weights(book)
            kept = (told[0], list(told[1]))
            told[1].clear()
            self.assertEqual(weights(book), kept)


if __name__ == "__main__":
    unittest.main()
