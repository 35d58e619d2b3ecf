import itertools
import random
import re
import time
import unittest

from helpers import fits_plainly, is_open, put_in, put_name, small_book, vars_of
from poolrules.books import book_text, read_book
from poolrules.overlaps import overlaps
from poolrules.pools import pool_text, start_pool

KINDS = "passing p 1\npassing q 2\npassing n 0\nlasting e 2\nlasting m 0\n"


def book_of(rules):
    return read_book(KINDS + rules)


def words_of(book):
    said = set()
    for rule in book.rules:
        for fact in rule.taken + rule.kept + rule.given:
            said |= set(fact[1])
        for look in rule.looks:
            said |= {look.left, look.right}
        for pair in rule.told:
            said |= set(pair)
    return sorted(name for name in said if not is_open(name))


def lasts_of(book):
    return [kind[0] for kind in book.kinds if kind[2]]


def standard(book, overlap):
    """The same for overlaps that are alike up to an exchange of names and of the two steps."""
    pool, one, other = overlap
    return min(named_by_turn(book, pool, one, other), named_by_turn(book, pool, other, one))


def named_by_turn(book, pool, one, other):
    said = words_of(book)
    naming = {}
    for name in one[1] + other[1]:
        if name not in naming:
            turn = len(naming)
            naming[name] = name if name in said else f"O{turn:02}" if is_open(name) else f"w{turn:02}new"
    facts = [sorted((fact[0], tuple(naming.get(name, name) for name in fact[1])) for fact in pool[part]) for part in (0, 1)]
    steps = [(step[0], tuple(naming[name] for name in step[1])) for step in (one, other)]
    return repr((facts, steps))


def matches_plainly(book, first, second):
    one = [fact for fact in first.taken + first.kept]
    other = [fact for fact in second.taken + second.kept]
    passing = [[k for k, fact in enumerate(heads) if fact[0] not in lasts_of(book)] for heads in (one, other)]
    for size in range(1, min(len(passing[0]), len(passing[1])) + 1):
        for lefts in itertools.combinations(passing[0], size):
            for rights in itertools.permutations(passing[1], size):
                pairs = list(zip(lefts, rights))
                if any(one[left][0] != other[right][0] for left, right in pairs):
                    continue
                if any(left < len(first.taken) or right < len(second.taken) for left, right in pairs):
                    yield pairs


def classes_of(pairs, names):
    group = {name: {name} for name in names}
    for one, other in pairs:
        for name in (one, other):
            group.setdefault(name, {name})
        joined = group[one] | group[other]
        for name in joined:
            group[name] = joined
    return group


def overlaps_plainly(book):
    """[23], tried in every way, as the set of the standard forms of overlaps with two unlike steps."""
    found = set()
    words = words_of(book)
    for (i, first), (j, second) in itertools.product(enumerate(book.rules), repeat=2):
        left = {name: "L" + name for name in first.names}
        right = {name: "R" + name for name in second.names}
        one = [put_in(list(left), list(left.values()), fact) for fact in first.taken + first.kept]
        other = [put_in(list(right), list(right.values()), fact) for fact in second.taken + second.kept]
        looks = [(look.word(), left.get(look.left, look.left), left.get(look.right, look.right)) for look in first.looks]
        looks += [(look.word(), right.get(look.left, look.left), right.get(look.right, look.right)) for look in second.looks]
        for pairs in matches_plainly(book, first, second):
            told = [pair for a, b in pairs for pair in zip(one[a][1], other[b][1])]
            told += [(a, b) for word, a, b in looks if word == "same"]
            names = list(left.values()) + list(right.values())
            group = classes_of(told, names)
            if any(len([name for name in members if not is_open(name)]) > 1 for members in group.values()):
                continue
            stand = {name: ([m for m in members if not is_open(m)] + [min(members)])[0] for name, members in group.items()}
            asked = sorted({
                stand.get(name, name) for word, a, b in looks if word == "unlike" for name in (a, b)
                if is_open(stand.get(name, name))})
            fresh = [f"z{number}" for number in range(len(asked))]
            for choice in itertools.product(words + fresh, repeat=len(asked)):
                naming = {name: put_name(asked, choice, stand[name]) for name in names}
                if any(word == "unlike" and naming.get(a, a) == naming.get(b, b) for word, a, b in looks):
                    continue
                facts = one + [fact for k, fact in enumerate(other) if k not in [b for _, b in pairs]]
                facts = [(fact[0], tuple(naming.get(name, name) for name in fact[1])) for fact in facts]
                pool = start_pool(book.kinds, facts)
                steps = ((i, tuple(naming[name] for name in left.values())), (j, tuple(naming[name] for name in right.values())))
                if steps[0] != steps[1] and all(fits_plainly(book, pool, step) for step in steps):
                    found.add(standard(book, (pool, steps[0], steps[1])))
    return found


class FormTest(unittest.TestCase):
    def check_form(self, book, found):
        for pool, one, other in found:
            for step in (one, other):
                self.assertTrue(fits_plainly(book, pool, step), (book_text(book), pool, step))
            self.assertEqual(start_pool(book.kinds, list(pool[0] + pool[1])), pool)
            first, second = (
                [put_in(rule.names, step[1], fact) for fact in rule.taken + rule.kept]
                for rule, step in ((book.rules[one[0]], one), (book.rules[other[0]], other)))
            self.assertEqual(set(first + second), set(pool[0] + pool[1]))
            count = sum(fact[0] not in lasts_of(book) for fact in first + second)
            self.assertLess(len(pool[0]), count)

    def test_every_overlap_is_told_and_is_one(self):
        chance = random.Random(31)
        some = 0
        for _ in range(250):
            book = small_book(chance)
            kept = vars_of(book)
            found = overlaps(book)
            self.check_form(book, found)
            want = overlaps_plainly(book)
            told = {standard(book, overlap) for overlap in found if overlap[1] != overlap[2]}
            self.assertEqual(told, want, book_text(book))
            self.assertEqual(overlaps(book), found)
            self.assertEqual(overlaps(read_book(book_text(book))), found)
            self.assertEqual(vars_of(book), kept)
            some += len(want) > 0
        self.assertGreater(some, 100)


class EdgesTest(unittest.TestCase):
    def shapes(self, rules, numbers=(0, 1)):
        """The pools of the overlaps of two rules, the first two where none are told."""
        book = book_of(rules)
        found = overlaps(book)
        self.assertEqual({standard(book, overlap) for overlap in found if overlap[1] != overlap[2]}, overlaps_plainly(book))
        meeting = [(pool, one, other) for pool, one, other in found if sorted((one[0], other[0])) == list(numbers)]
        return [pool_text(pool) for pool, one, other in meeting if one != other]

    def test_two_rules(self):
        self.assertEqual(len(self.shapes("rule r: take p(A); put n\nrule s: take p(B); keep e(B,C)")), 1)
        self.assertEqual(self.shapes("rule r: take p(A)\nrule s: take n"), [])
        self.assertEqual(self.shapes("rule r: take p(a)\nrule s: take p(b)"), [])
        self.assertEqual(self.shapes("rule r: take p(a)\nrule s: take p(A)"), ["p(a); ; "])

    def test_one_rule_with_itself(self):
        self.assertEqual(self.shapes("rule r: take p(A)", (0, 0)), [])
        pools = self.shapes("rule r: take p(A), p(B); put p(A)", (0, 0))
        self.assertIn(2, [pool.count("p(") for pool in pools])
        self.assertIn(3, [pool.count("p(") for pool in pools])
        self.assertEqual(self.shapes("rule r: take p(A); keep e(A,B); put p(B)", (0, 0)), ["p(X1); e(X1,X2), e(X1,X3); "])

    def test_one_and_several_matched_heads(self):
        pools = self.shapes("rule r: take p(A), n; put m\nrule s: take p(A), n")
        self.assertEqual(sorted(pool.count("(") + pool.count("n") for pool in pools), [2, 3, 3])

    def test_taken_and_kept_heads(self):
        self.assertEqual(len(self.shapes("rule r: take p(A)\nrule s: take n; keep p(A)")), 1)
        self.assertEqual(self.shapes("rule r: take n; keep p(A)\nrule s: take q(A,A); keep p(A)"), [])
        self.assertEqual(len(self.shapes("rule r: take n; keep p(A)\nrule s: take n, q(B,B); keep p(A)")), 2)
        self.assertEqual(self.shapes("rule r: keep p(A); put e(A,A)\nrule s: keep p(A); put e(A,b)"), [])

    def test_lasting_heads_are_not_matched(self):
        self.assertEqual(self.shapes("rule r: take n; keep e(A,B)\nrule s: take p(A); keep e(A,B)"), [])
        self.assertEqual(self.shapes("rule r: keep e(A,B); put e(B,A)\nrule s: keep e(A,B); put m"), [])

    def test_looks_at_the_same(self):
        self.assertEqual(self.shapes("rule r: take q(A,B); look A same B\nrule s: take q(C,D); look C same a"), ["q(a,a); ; "])
        self.assertEqual(self.shapes("rule r: take q(A,B); look A same B, B same b\nrule s: take q(C,D); look C same a"), [])
        self.assertEqual(self.shapes("rule r: take p(A); look a same b\nrule s: take p(A)"), [])

    def test_looks_at_unlike_words(self):
        rules = "rule r: take q(A,B); look A unlike B\nrule s: take q(A,B)"
        self.assertEqual(len(self.shapes(rules)), 1)
        for words, count in (("a", 3), ("a, p(b)", 7), ("a, p(b), p(c)", 13)):
            row = words.replace("a", "p(a)", 1)
            self.assertEqual(len(self.shapes(rules + f"\nrule t: take n; put {row}")), count)
        self.assertEqual(self.shapes("rule r: take p(A); look A unlike A\nrule s: take p(A)"), [])
        self.assertEqual(self.shapes("rule r: take q(A,A); look a unlike b\nrule s: take q(B,C)"), ["q(X1,X1); ; "])

    def test_words_that_any_rule_says_anywhere(self):
        for said in ("take p(w)", "take n; keep p(w)", "take n; look w same w", "take n; put p(w)", "take n; tell w = w"):
            pools = self.shapes(f"rule r: take q(A,B); look A unlike v\nrule s: take q(A,B)\nrule t: {said}")
            self.assertEqual([len([pool for pool in pools if "q(w," in pool]), len([pool for pool in pools if "q(" in pool])], [1, 2])

    def test_new_words_are_not_said_ones(self):
        pools = self.shapes("rule r: take q(A,B); look A unlike B; put p(n1), p(n2)\nrule s: take q(A,B); put p(n3)")
        self.assertEqual(len(pools), 13)

    def test_new_words_alike_or_not(self):
        pools = self.shapes("rule r: take p(A), n; look A unlike a\nrule s: take p(B), n; look B unlike a; put m")
        both = [pool for pool in pools if pool.count("p(") == 2 and "a" not in pool]
        self.assertEqual(sorted(len(set(re.findall(r"p\((\w+)\)", pool))) for pool in both), [1, 2])

    def test_four_open_names_that_become_words(self):
        rules = "rule r: take q(A,B), n; look A unlike B\nrule s: take q(A,B), n; look A unlike B; put m"
        self.assertEqual(len([pool for pool in self.shapes(rules) if pool.count("q(") == 2]), 7)
        self.shapes(rules + "\nrule t: take p(a)")

    def test_call_ins_that_change_nothing(self):
        self.assertEqual(self.shapes("rule r: take p(A)\nrule s: keep p(A), e(A,A); put e(A,A)"), [])
        self.assertEqual(len(self.shapes("rule r: take p(A)\nrule s: keep p(A); put e(A,A)")), 1)
        self.assertEqual(self.shapes("rule r: take p(A); keep e(A,b)\nrule s: keep p(A); put e(A,b)"), [])
        self.assertEqual(self.shapes("rule r: take p(a)\nrule s: keep p(A); tell A = a"), [])
        self.assertEqual(len(self.shapes("rule r: take p(b)\nrule s: keep p(A); tell A = a")), 1)

    def test_books_without_weights(self):
        self.assertEqual(len(self.shapes("rule r: take n; put n, n\nrule s: take n")), 1)

    def test_books_without_rules(self):
        self.assertEqual(overlaps(read_book("")), [])
        self.assertEqual(overlaps(book_of("")), [])

    def test_what_is_told_is_the_askers_own(self):
        book = book_of("rule r: take p(A)\nrule s: take p(A); put n")
        found = overlaps(book)
        kept = list(found)
        found.clear()
        self.assertEqual(overlaps(book), kept)


class SizeTest(unittest.TestCase):
    def test_great_books_are_answered_without_a_long_wait(self):
        start = time.monotonic()
        lines = ["passing p 4"] + [f"lasting e{k} 2" for k in range(4)] + [f"passing q{k} 1" for k in range(3)]
        for number in range(8):
            lines.append(
                f"rule r{number}: take p(A,B,C,D), q{number % 3}(E); keep p(C,D,E,F), e0(A,B), e1(B,C), e2(D,E), e3(a,F); "
                f"look A unlike b, B same C, C same D, E same F; put e0(A,a), e1(B,b), e2(C,c), q0(A); "
                f"tell A = B, C = D, E = F, A = A")
        found = overlaps(read_book("\n".join(lines)))
        self.assertGreater(len(found), 1000)
        self.assertLess(time.monotonic() - start, 20)


if __name__ == "__main__":
    unittest.main()
