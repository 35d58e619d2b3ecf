import math
import random
import time
import unittest
from fractions import Fraction

from helpers import chance_book, vars_of
from poolrules.books import book_text, read_book
from poolrules.standing import standing
from poolrules.tallies import breaker, effects


def rank(rows):
    rows = [[Fraction(number) for number in row] for row in rows]
    found = 0
    for column in range(len(rows[0]) if rows else 0):
        pivot = next((row for row in rows[found:] if row[column] != 0), None)
        if pivot is None:
            continue
        rows.remove(pivot)
        rows.insert(found, pivot)
        for place in range(found + 1, len(rows)):
            times = rows[place][column] / pivot[column]
            rows[place] = [one - times * other for one, other in zip(rows[place], pivot)]
        found += 1
    return found


def counted_book(chance, kinds, rules):
    lines = [f"{chance.choice(('passing', 'passing', 'lasting'))} k{number} 0" for number in range(kinds)]
    passing = [line.split()[1] for line in lines if line.startswith("passing")]
    for number in range(rules):
        if passing:
            taken = [chance.choice(passing) for _ in range(chance.randint(1, 4))]
            given = [chance.choice(passing) for _ in range(chance.randint(0, 4))]
            lines.append(f"rule r{number}: take {', '.join(taken)}" + ("; put " + ", ".join(given) if given else ""))
    return read_book("\n".join(lines))


class StandingTest(unittest.TestCase):
    def check(self, book):
        """[22]'s own words."""
        kept = vars_of(book)
        rows = standing(book)
        width = len([kind for kind in book.kinds if not kind[2]])
        firsts = []
        for row in rows:
            self.assertIsInstance(row, list)
            self.assertEqual(len(row), width)
            self.assertTrue(all(type(number) is int for number in row))
            firsts.append(next(place for place, number in enumerate(row) if number != 0))
            self.assertGreater(row[firsts[-1]], 0)
            self.assertEqual(math.gcd(*row), 1)
            self.assertIsNone(breaker(book, "stays", row), book_text(book))
        self.assertEqual(firsts, sorted(set(firsts)))
        for place, first in enumerate(firsts):
            self.assertEqual([row[first] for row in rows if row is not rows[place]], [0] * (len(rows) - 1))
        self.assertEqual(len(rows), width - rank(effects(book)))
        self.assertEqual(vars_of(book), kept)
        return rows

    def told(self, text):
        return self.check(read_book(text))

    def test_known_books(self):
        kinds = "passing p 1\nlasting m 0\npassing q 0\npassing n 2\n"
        self.assertEqual(self.told(kinds + "rule r: take p(A); put q"), [[1, 1, 0], [0, 0, 1]])
        self.assertEqual(self.told(kinds + "rule r: take p(A), p(A); put q, q, q"), [[3, 2, 0], [0, 0, 1]])
        self.assertEqual(self.told(kinds + "rule r: take p(A), q; put n(A,A)"), [[1, 0, 1], [0, 1, 1]])
        self.assertEqual(self.told(kinds + "rule r: take p(A); put q, n(A,A)"), [[1, 0, 1], [0, 1, -1]])
        self.assertEqual(self.told(kinds + "rule r: take p(A); put q\nrule s: take q; put n(a,b)"), [[1, 1, 1]])
        self.assertEqual(self.told(kinds + "rule r: take p(A)"), [[0, 1, 0], [0, 0, 1]])
        self.assertEqual(self.told(kinds + "rule r: take n(A,B); put p(A), p(B), q, q"), [[1, 0, 2], [0, 1, 2]])

    def test_no_standing_rows(self):
        self.assertEqual(self.told("passing p 0\nrule r: take p"), [])
        self.assertEqual(self.told("passing p 0\npassing q 0\nrule r: take p; put q\nrule s: take p, q"), [])
        self.assertEqual(self.told(""), [])
        self.assertEqual(self.told("lasting m 0\nrule r: keep m"), [])

    def test_all_rows_stay(self):
        self.assertEqual(self.told("passing p 0\npassing q 0"), [[1, 0], [0, 1]])
        self.assertEqual(self.told("passing p 0\nlasting m 0\npassing q 0\nrule r: keep p; put m"), [[1, 0], [0, 1]])
        self.assertEqual(self.told("passing p 0\npassing q 0\nrule r: take p; keep q; put p"), [[1, 0], [0, 1]])

    def test_many_books(self):
        chance = random.Random(91)
        start = time.monotonic()
        lengths = set()
        for _ in range(600):
            rows = self.check(counted_book(chance, chance.randint(0, 8), chance.choice((0, 1, 2, 3, 5, 8))))
            lengths.add(len(rows))
        for _ in range(200):
            self.check(chance_book(chance, rules=5, size=4))
        self.assertGreater(len(lengths), 5)
        self.assertLess(time.monotonic() - start, 30)

    def test_what_is_told_is_the_askers_own(self):
        book = read_book("passing p 0\npassing q 0\nrule r: take p; put q")
        rows = standing(book)
        rows[0][0] = 7
        rows.clear()
        self.assertEqual(standing(book), [[1, 1]])


if __name__ == "__main__":
    unittest.main()
