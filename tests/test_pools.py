import copy
import itertools
import random
import time
import unittest

from poolrules.errors import BadArgs, BadTake, NoFact, NoKind, NoName, PoolError
from poolrules.facts import read_facts
from poolrules.pools import moved, pool_text, stands_for, start_pool

KINDS = [
    ("token", 1, False), ("edge", 2, True), ("done", 0, False), ("mark", 0, True), ("pair", 2, False),
]
EMPTY = ((), (), (), False)
BROKEN = ((), (), (), True)


def pool_of(row):
    return start_pool(KINDS, read_facts(row))


def change(pool, taken="", put="", told=()):
    return moved(KINDS, pool, read_facts(taken), read_facts(put), list(told))


class StartTest(unittest.TestCase):
    def test_the_empty_pool(self):
        self.assertEqual(start_pool(KINDS, []), EMPTY)
        self.assertEqual(start_pool([], []), EMPTY)

    def test_the_form_of_a_pool(self):
        pool = pool_of("token(b), edge(b,X), done, token(a), mark, edge(a,b)")
        self.assertEqual(pool, (
            (("done", ()), ("token", ("a",)), ("token", ("b",))),
            (("edge", ("a", "b")), ("edge", ("b", "X")), ("mark", ())),
            (("X", "X"),),
            False,
        ))
        self.assertEqual([type(part) for part in pool], [tuple, tuple, tuple, bool])

    def test_passing_facts_are_held_as_often_as_they_are_put_in(self):
        self.assertEqual(pool_of("token(a), done, token(a), token(a), done")[0], (
            ("done", ()), ("done", ()), ("token", ("a",)), ("token", ("a",)), ("token", ("a",)),
        ))

    def test_lasting_facts_are_held_once(self):
        pool = pool_of("edge(a,b), mark, edge(a,b), mark, edge(b,a)")
        self.assertEqual(pool, ((), (("edge", ("a", "b")), ("edge", ("b", "a")), ("mark", ())), (), False))

    def test_facts_are_sorted_sign_by_sign(self):
        pool = pool_of("token(b), token(a10), token(a2), token(X), token(Xa), token(7), token(X1)")
        self.assertEqual(
            [fact[1][0] for fact in pool[0]], ["7", "X", "X1", "Xa", "a10", "a2", "b"])
        self.assertEqual(pool[2], (("X", "X"), ("X1", "X1"), ("Xa", "Xa")))

    def test_refusals(self):
        for row, error in (
            ("other", NoKind), ("token", BadArgs), ("token(a,b)", BadArgs), ("done(a)", BadArgs),
            ("edge(a)", BadArgs), ("mark(a)", BadArgs), ("done, other(a), token", NoKind),
            ("done, token, other(a)", BadArgs),
        ):
            with self.subTest(row), self.assertRaises(error) as caught:
                pool_of(row)
            self.assertIs(type(caught.exception), error)

    def test_without_kinds_every_fact_is_refused(self):
        with self.assertRaises(NoKind):
            start_pool([], [("done", ())])

    def test_the_same_name_may_last_or_pass(self):
        facts = [("p", ()), ("p", ())]
        self.assertEqual(start_pool([("p", 0, True)], facts), ((), (("p", ()),), (), False))
        self.assertEqual(start_pool([("p", 0, False)], facts), ((("p", ()), ("p", ())), (), (), False))


class TakingTest(unittest.TestCase):
    def test_each_is_taken_once(self):
        pool = pool_of("token(a), token(a), token(a), done")
        self.assertEqual(change(pool, "token(a)"), pool_of("token(a), token(a), done"))
        self.assertEqual(change(pool, "token(a), token(a)"), pool_of("token(a), done"))
        self.assertEqual(change(pool, "token(a), done, token(a), token(a)"), EMPTY)

    def test_what_is_not_there_often_enough(self):
        pool = pool_of("token(a), token(a), token(b)")
        for taken in ("done", "token(c)", "token(a), token(a), token(a)", "token(b), token(b)", "token(a), done"):
            with self.subTest(taken), self.assertRaises(NoFact):
                change(pool, taken)

    def test_taking_goes_ahead_of_putting_and_telling(self):
        with self.assertRaises(NoFact):
            change(EMPTY, "done", "done")
        with self.assertRaises(NoFact):
            change(pool_of("token(X)"), "token(a)", "", [("X", "a")])
        with self.assertRaises(NoFact):
            change(EMPTY, "done", "", [("a", "b")])
        self.assertEqual(change(pool_of("token(X)"), "token(X)", "token(X)", [("X", "a")])[0], (("token", ("a",)),))

    def test_another_name_of_the_same_class(self):
        pool = change(pool_of("token(X), token(Y), pair(Z,X)"), told=[("X", "Y"), ("Z", "c")])
        behind = change(pool, "token(Y), token(Y), pair(c,Y)")
        self.assertEqual(behind, ((), (), (("X", "X"), ("Y", "X"), ("Z", "c")), False))
        with self.assertRaises(NoFact):
            change(pool, "token(X), token(Y), token(X)")
        word = change(pool_of("token(X)"), told=[("X", "a")])
        self.assertEqual(change(word, "token(X)"), change(word, "token(a)"))

    def test_an_open_name_that_only_a_taking_had(self):
        pool = pool_of("token(X), token(a)")
        for taken in ("token(Y)", "token(X), token(Y)"):
            with self.assertRaises(NoFact):
                change(pool, taken, "token(Y)", [("X", "Y")])
        behind = change(pool, "token(X)")
        self.assertEqual(behind[2], (("X", "X"),))
        with self.assertRaises(NoName):
            stands_for(behind, "Y")

    def test_a_name_stays_known_when_its_facts_are_gone(self):
        self.assertEqual(change(pool_of("token(X)"), "token(X)"), ((), (), (("X", "X"),), False))


class PuttingTest(unittest.TestCase):
    def test_put_facts_are_written_with_what_their_names_stand_for(self):
        pool = change(EMPTY, told=[("Y", "X"), ("Z", "c")])
        self.assertEqual(change(pool, put="token(Y), edge(Z,W), edge(c,W)"), (
            (("token", ("X",)),),
            (("edge", ("c", "W")),),
            (("W", "W"), ("X", "X"), ("Y", "X"), ("Z", "c")),
            False,
        ))

    def test_a_lasting_fact_put_in_twice(self):
        pool = pool_of("edge(a,b)")
        self.assertEqual(change(pool, put="edge(a,b), edge(a,b)"), pool)

    def test_a_passing_fact_put_in_again(self):
        pool = change(pool_of("token(a)"), put="token(a)")
        self.assertEqual(pool[0], (("token", ("a",)), ("token", ("a",))))

    def test_what_is_put_in_stands_sorted_among_the_others(self):
        self.assertEqual(change(pool_of("token(b), edge(b,b)"), put="token(a), token(c), edge(a,a)"),
                         pool_of("token(a), token(b), token(c), edge(a,a), edge(b,b)"))


class TellingTest(unittest.TestCase):
    def test_the_least_open_name_stands(self):
        for pair in (("X2", "X10"), ("X10", "X2")):
            pool = change(pool_of("token(X2), token(X10)"), told=[pair])
            self.assertEqual(pool, (
                (("token", ("X10",)), ("token", ("X10",))), (), (("X10", "X10"), ("X2", "X10")), False))

    def test_a_word_stands_even_ahead_of_a_lesser_open_name(self):
        for word in ("a", "7"):
            for pair in ((word, "X"), ("X", word)):
                pool = change(pool_of("token(X)"), told=[pair])
                self.assertEqual(pool, ((("token", (word,)),), (), (("X", word),), False))

    def test_chains_in_every_order(self):
        links = [("A", "B"), ("C", "B"), ("C", "D")]
        for told in itertools.permutations(links):
            pool = change(pool_of("pair(D,C), token(B), edge(A,D)"), told=told)
            self.assertEqual(pool, (
                (("pair", ("A", "A")), ("token", ("A",))), (("edge", ("A", "A")),),
                (("A", "A"), ("B", "A"), ("C", "A"), ("D", "A")), False))

    def test_chains_with_a_word_in_every_order(self):
        links = [("A", "B"), ("B", "w"), ("C", "B"), ("C", "D")]
        for told in itertools.permutations(links):
            pool = change(EMPTY, told=told)
            self.assertEqual(pool, ((), (), (("A", "w"), ("B", "w"), ("C", "w"), ("D", "w")), False))
            step_by_step = EMPTY
            for pair in told:
                step_by_step = change(step_by_step, told=[pair])
            self.assertEqual(step_by_step, pool)

    def test_two_classes_become_one(self):
        pool = change(EMPTY, told=[("A", "B"), ("C", "D")])
        self.assertEqual(pool[2], (("A", "A"), ("B", "A"), ("C", "C"), ("D", "C")))
        pool = change(pool, told=[("D", "B")])
        self.assertEqual(pool[2], (("A", "A"), ("B", "A"), ("C", "A"), ("D", "A")))

    def test_two_lasting_facts_become_one_and_passing_ones_do_not(self):
        pool = pool_of("edge(a,X), edge(a,Y), edge(a,b), token(X), token(Y)")
        pool = change(pool, told=[("X", "Y")])
        self.assertEqual(pool[1], (("edge", ("a", "X")), ("edge", ("a", "b"))))
        self.assertEqual(pool[0], (("token", ("X",)), ("token", ("X",))))
        pool = change(pool, told=[("Y", "b")])
        self.assertEqual(pool[1], (("edge", ("a", "b")),))
        self.assertEqual(pool[0], (("token", ("b",)), ("token", ("b",))))

    def test_facts_are_sorted_anew(self):
        pool = change(pool_of("token(X), token(b), edge(X,a), edge(b,a)"), told=[("X", "c")])
        self.assertEqual(pool[:2], (
            (("token", ("b",)), ("token", ("c",))), (("edge", ("b", "a")), ("edge", ("c", "a")))))

    def test_names_that_are_the_same_already(self):
        pool = pool_of("token(a)")
        self.assertEqual(change(pool, told=[("a", "a"), ("b", "b")]), pool)
        self.assertEqual(change(pool, told=[("X", "X")]), (pool[0], (), (("X", "X"),), False))
        twice = change(pool, told=[("X", "Y"), ("Y", "X"), ("X", "b"), ("b", "Y")])
        self.assertEqual(twice[2], (("X", "b"), ("Y", "b")))

    def test_pairs_may_have_new_names(self):
        self.assertEqual(change(EMPTY, told=[("X", "Y")]), ((), (), (("X", "X"), ("Y", "X")), False))
        self.assertEqual(change(EMPTY, told=[("a", "Z")]), ((), (), (("Z", "a"),), False))


class BreakingTest(unittest.TestCase):
    def test_two_unlike_words_in_one_class(self):
        for told in (
            [("a", "b")], [("X", "a"), ("X", "b")], [("X", "a"), ("b", "Y"), ("Y", "X")],
            [("X", "1"), ("Y", "X"), ("Z", "Y"), ("2", "Z")],
        ):
            with self.subTest(told):
                self.assertEqual(change(pool_of("token(a), edge(a,X)"), told=told), BROKEN)

    def test_over_several_changes(self):
        pool = change(pool_of("token(X)"), told=[("X", "a")])
        self.assertEqual(change(pool, told=[("X", "b")]), BROKEN)
        self.assertEqual(change(pool, "token(a)", "done", [("Y", "b"), ("X", "Y"), ("Z", "Y")]), BROKEN)

    def test_the_broken_pool_stays(self):
        self.assertEqual(change(BROKEN), BROKEN)
        self.assertEqual(change(BROKEN, "token(a)", "done, edge(X,Y)", [("X", "a")]), BROKEN)

    def test_the_broken_pool_refuses_but_with_no_fact(self):
        for taken, put, error in (
            ("other", "", NoKind), ("", "other", NoKind), ("token", "", BadArgs), ("", "token", BadArgs),
            ("mark", "", BadTake), ("mark, token", "", BadArgs), ("mark", "other", NoKind),
        ):
            with self.subTest((taken, put)), self.assertRaises(error):
                change(BROKEN, taken, put)

    def test_asked_and_written(self):
        self.assertEqual(pool_text(BROKEN), "broken")
        self.assertEqual(stands_for(BROKEN, "a"), "a")
        for name in ("X", "A1"):
            with self.assertRaises(NoName):
                stands_for(BROKEN, name)


class RefusalOrderTest(unittest.TestCase):
    def check(self, taken, put, error):
        for pool in (EMPTY, pool_of("token(a), edge(a,X)")):
            with self.subTest((taken, put, pool)), self.assertRaises(error) as caught:
                change(pool, taken, put, [("a", "b")])
            self.assertIs(type(caught.exception), error)

    def test_each_alone(self):
        self.check("other", "", NoKind)
        self.check("", "other(a)", NoKind)
        self.check("token(a,b)", "", BadArgs)
        self.check("", "token", BadArgs)
        self.check("edge(a,X)", "", BadTake)
        self.check("done", "", NoFact)

    def test_the_first_wrong_fact_from_the_left(self):
        self.check("token, other", "", BadArgs)
        self.check("other, token", "", NoKind)
        self.check("", "token, other", BadArgs)
        self.check("", "other, token", NoKind)

    def test_taken_facts_ahead_of_put_facts(self):
        self.check("token", "other", BadArgs)
        self.check("other", "token", NoKind)

    def test_all_facts_ahead_of_bad_take_ahead_of_no_fact(self):
        self.check("mark, other", "", NoKind)
        self.check("mark, token", "", BadArgs)
        self.check("mark", "other", NoKind)
        self.check("mark", "token", BadArgs)
        self.check("done, mark", "", BadTake)
        self.check("done", "other", NoKind)
        self.check("done, done", "token", BadArgs)

    def test_a_taken_lasting_fact_with_a_wrong_number_of_arguments(self):
        self.check("edge(a)", "", BadArgs)


class StandsForTest(unittest.TestCase):
    def test_words_and_known_names(self):
        pool = change(pool_of("token(X), token(V)"), told=[("Y", "X"), ("Z", "c")])
        for name, what in (
            ("a", "a"), ("c", "c"), ("7", "7"), ("V", "V"), ("X", "X"), ("Y", "X"), ("Z", "c"),
        ):
            self.assertEqual(stands_for(pool, name), what)

    def test_names_that_are_not_known(self):
        pool = pool_of("token(X)")
        for name in ("Y", "X1", "A"):
            with self.assertRaises(NoName):
                stands_for(pool, name)
            with self.assertRaises(NoName):
                stands_for(EMPTY, name)


class TextTest(unittest.TestCase):
    def test_pools(self):
        pool = change(pool_of("token(X1), token(a), edge(a,b)"), told=[("X1", "a")])
        self.assertEqual(pool_text(pool), "token(a), token(a); edge(a,b); X1=a")
        self.assertEqual(pool_text(EMPTY), "; ; ")
        self.assertEqual(pool_text(pool_of("done")), "done; ; ")
        self.assertEqual(pool_text(pool_of("mark, edge(a,b)")), "; edge(a,b), mark; ")

    def test_only_names_that_stand_for_another(self):
        self.assertEqual(pool_text(pool_of("token(X)")), "token(X); ; ")
        pool = change(EMPTY, told=[("Z", "Y"), ("B", "c"), ("A", "c"), ("D", "D")])
        self.assertEqual(pool_text(pool), "; ; A=c, B=c, Z=Y")


class UnchangedTest(unittest.TestCase):
    def check(self, pool, taken, put, told):
        handed = (list(KINDS), pool, read_facts(taken), read_facts(put), told)
        kept = copy.deepcopy(handed)
        try:
            moved(*handed)
            refused = False
        except PoolError:
            refused = True
        self.assertEqual(handed, kept)
        return refused

    def test_nothing_handed_in_is_changed(self):
        pool = pool_of("token(X), token(X), edge(X,a)")
        self.assertFalse(self.check(pool, "token(X)", "token(Y), edge(a,a)", [("X", "Y"), ("Y", "a")]))
        self.assertFalse(self.check(pool, "token(X)", "token(Y)", [("a", "b")]))
        self.assertFalse(self.check(BROKEN, "token(X)", "token(Y)", [("X", "Y")]))
        facts = read_facts("token(b), edge(a,b), token(a), edge(a,b)")
        start_pool(KINDS, facts)
        self.assertEqual(facts, read_facts("token(b), edge(a,b), token(a), edge(a,b)"))

    def test_nor_behind_a_refusal(self):
        pool = pool_of("token(X), token(X), edge(X,a)")
        for taken, put in (
            ("token(X), done", "token(Y)"), ("token(X), mark", "done"), ("token(X)", "done, other"),
            ("token(X)", "done, token"),
        ):
            self.assertTrue(self.check(pool, taken, put, [("X", "Y"), ("Y", "a")]))

    def test_what_is_told_stays_as_it_was(self):
        facts = read_facts("token(a), edge(a,b)")
        told = [("X", "Y")]
        pool = moved(KINDS, start_pool(KINDS, facts), [], facts, told)
        kept = copy.deepcopy(pool)
        facts.clear()
        told.clear()
        change(pool, "token(a)", "token(Z)", [("X", "c")])
        self.assertEqual(pool, kept)
        hash(pool)


class History:
    """A pool as the plain record of all that was put in, taken and told."""

    def __init__(self):
        self.passing = []
        self.lasting = []
        self.pairs = []
        self.known = set()

    def the_class(self, name):
        members = {name}
        while True:
            more = {x for pair in self.pairs if members & set(pair) for x in pair} | members
            if more == members:
                return members
            members = more

    def stands(self, name):
        members = self.the_class(name)
        words = [member for member in members if not member[0].isupper()]
        return words[0] if words else min(members)

    def write(self, fact):
        return (fact[0], tuple(self.stands(name) for name in fact[1]))

    def change(self, taken, put, told):
        left = [self.write(fact) for fact in self.passing]
        for fact in taken:
            if self.write(fact) not in left:
                return False
            left.remove(self.write(fact))
        lasts = [kind[0] for kind in KINDS if kind[2]]
        self.passing = left + [fact for fact in put if fact[0] not in lasts]
        self.lasting = self.lasting + [fact for fact in put if fact[0] in lasts]
        self.pairs = self.pairs + told
        names = [name for fact in put for name in fact[1]] + [name for pair in told for name in pair]
        self.known |= {name for name in names if name[0].isupper()}
        return True

    def pool(self):
        names = {name for pair in self.pairs for name in pair}
        for name in names:
            if len([member for member in self.the_class(name) if not member[0].isupper()]) > 1:
                return BROKEN
        return (
            tuple(sorted(self.write(fact) for fact in self.passing)),
            tuple(sorted({self.write(fact) for fact in self.lasting})),
            tuple(sorted((name, self.stands(name)) for name in self.known)),
            False,
        )


class HistoryTest(unittest.TestCase):
    def facts(self, chance, names, most, with_lasting):
        kinds = [kind for kind in KINDS if with_lasting or not kind[2]]
        row = []
        for _ in range(chance.randint(0, most)):
            kind = chance.choice(kinds)
            row.append((kind[0], tuple(chance.choice(names) for _ in range(kind[1]))))
        return row

    def one_play(self, chance):
        names = ["a", "b", "7", "X", "Y", "Z", "X1", "X10", "A"][chance.randint(0, 3):]
        history = History()
        pool = EMPTY
        for _ in range(12):
            taken = self.facts(chance, names, 1, False)
            if pool[0] and chance.randint(0, 1):
                taken.append(chance.choice(pool[0]))
            put = self.facts(chance, names, 4, True)
            told = [(chance.choice(names), chance.choice(names)) for _ in range(chance.choice((0, 0, 1, 2)))]
            if pool == BROKEN:
                self.assertEqual(moved(KINDS, pool, taken, put, told), BROKEN)
            elif history.change(taken, put, told):
                pool = moved(KINDS, pool, taken, put, told)
                self.assertEqual(pool, history.pool())
            else:
                with self.assertRaises(NoFact):
                    moved(KINDS, pool, taken, put, told)

    def test_changes_agree_with_the_history(self):
        chance = random.Random(7)
        for _ in range(400):
            self.one_play(chance)


class SizeTest(unittest.TestCase):
    def test_great_pools_are_answered_without_a_long_wait(self):
        start = time.monotonic()
        names = ["N" + str(number) for number in range(60)]
        facts = [("pair", (names[k % 60], names[(k * 7) % 60])) for k in range(150)]
        facts += [("edge", (names[k % 60], names[(k * 11) % 60])) for k in range(150)]
        pool = start_pool(KINDS, facts)
        self.assertEqual(len(pool[2]), 60)
        chain = list(zip(names, names[1:]))
        for told in (chain, chain[::-1], chain * 50):
            behind = moved(KINDS, pool, facts[:150], facts, told)
            self.assertEqual(behind[0], (("pair", ("N0", "N0")),) * 150)
            self.assertEqual(behind[1], (("edge", ("N0", "N0")),))
        for name in names:
            self.assertEqual(stands_for(behind, name), "N0")
        self.assertEqual(len(pool_text(behind).split("; ")[2].split(", ")), 59)
        self.assertEqual(moved(KINDS, behind, [], [], [("a", "N59"), ("N3", "b")]), BROKEN)
        for _ in range(100):
            pool = moved(KINDS, pool, facts[:150], facts[:150], [])
        self.assertLess(time.monotonic() - start, 10)


if __name__ == "__main__":
    unittest.main()
