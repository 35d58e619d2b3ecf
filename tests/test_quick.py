import random
import time
import unittest

from helpers import (
    BROKEN, EMPTY, after_plainly, chance_book, chance_fact, chance_pool, fits_plainly, pool_of, refused, steps_plainly,
    vars_of, walk)
from poolrules.books import book_text, read_book
from poolrules.errors import BadArgs, NoKind
from poolrules.plays import first_play
from poolrules.pools import moved, pool_text
from poolrules.quick import Quick

KINDS = "passing p 1\npassing q 2\npassing n 0\nlasting e 2\nlasting m 0\n"


def book_of(rules):
    return read_book(KINDS + rules)


class StepTest(unittest.TestCase):
    def player(self, rules, row="", told=()):
        book = book_of(rules)
        return (book, Quick(book, pool_of(book, row, told)))

    def test_a_step(self):
        book, player = self.player("rule r: take p(A); put q(A,b)", "p(a)")
        self.assertEqual(player.step(), (0, ("a",)))
        self.assertEqual(pool_text(player.now()), "q(a,b); ; ")
        self.assertIsNone(player.step())
        self.assertIsNone(player.step())

    def test_a_run(self):
        book, player = self.player("rule r: take p(A); put q(A,A)\nrule s: take q(A,B)", "p(a), p(b), p(b)")
        pool = player.now()
        done = player.run(4)
        self.assertEqual(len(done), 4)
        self.assertEqual(walk(self, book, pool, done), player.now())
        self.assertEqual(len(player.run(99)), 2)
        self.assertEqual(player.now(), EMPTY)
        self.assertEqual(player.run(99), [])

    def test_a_number_of_steps_of_nought_and_below(self):
        book, player = self.player("rule r: take n", "n, n")
        for most in (0, -1, -10 ** 30):
            self.assertEqual(player.run(most), [])
        self.assertEqual(pool_text(player.now()), "n, n; ; ")
        self.assertEqual(player.run(1), [(0, ())])

    def test_a_run_without_end(self):
        book, player = self.player("rule r: take n; put n, n", "n")
        self.assertEqual(len(player.run(50)), 50)
        self.assertEqual(len(player.now()[0]), 51)
        book, player = self.player("rule r: take n; put n", "n")
        self.assertEqual(player.run(30), [(0, ())] * 30)

    def test_it_has_the_pool_that_it_was_made_with(self):
        book = book_of("rule r: take p(A)")
        for pool in (EMPTY, BROKEN, pool_of(book, "p(X), p(X), q(Y,Z), e(X,a), m, n", [("Z", "b"), ("Y", "X"), ("V", "W")])):
            self.assertEqual(Quick(book, pool).now(), pool)

    def test_the_same_fact_twice(self):
        book, player = self.player("rule r: take p(A), p(B); put m", "p(a)")
        self.assertIsNone(player.step())
        self.assertIsNone(player.add([("p", ("a",))]))
        self.assertEqual(player.step(), (0, ("a", "a")))

    def test_steps_that_break_the_pool(self):
        book, player = self.player("rule r: take q(A,B); tell A = B", "q(a,b), q(b,c)")
        self.assertEqual(len(player.run(9)), 1)
        self.assertEqual(player.now(), BROKEN)
        self.assertIsNone(player.step())
        self.assertEqual(player.run(5), [])

    def test_names_told_the_same_by_a_step_wake_others(self):
        book, player = self.player("rule r: take n; keep e(A,B); tell A = B\nrule s: take q(A,A)", "n, e(X,Y), q(X,Y)")
        done = player.run(9)
        self.assertEqual(done, [(0, ("X", "Y")), (1, ("X",))])
        book, player = self.player("rule r: keep e(A,B); tell B = b\nrule s: take q(A,B); look A unlike B", "e(X,Y), q(a,Y)")
        self.assertEqual(player.run(9), [(0, ("X", "Y")), (1, ("a", "b"))])


class OutsideTest(unittest.TestCase):
    def setUp(self):
        self.book = book_of("rule r: take p(A); keep e(A,B); put p(B)\nrule s: take q(A,A)\nrule t: take q(A,B); look A unlike B")

    def test_facts_wake_steps(self):
        player = Quick(self.book, EMPTY)
        self.assertIsNone(player.step())
        self.assertIsNone(player.add([("p", ("New",))]))
        self.assertIsNone(player.step())
        player.add([("e", ("New", "new")), ("e", ("x", "x"))])
        self.assertEqual(player.step(), (0, ("New", "new")))
        self.assertEqual(pool_text(player.now()), "p(new); e(New,new), e(x,x); ")
        self.assertEqual(player.now()[2], (("New", "New"),))

    def test_sameness_wakes_steps(self):
        player = Quick(self.book, pool_of(self.book, "q(X,Y)"))
        self.assertIsNone(player.step())
        self.assertIsNone(player.say([("Y", "X")]))
        self.assertEqual(player.step(), (1, ("X",)))
        player = Quick(self.book, pool_of(self.book, "q(X,Y)"))
        player.say([("X", "a")])
        self.assertIsNone(player.step())
        player.say([("Z", "Y"), ("Z", "b")])
        self.assertEqual(player.step(), (2, ("a", "b")))
        player = Quick(self.book, pool_of(self.book, "p(X), e(Y,a)"))
        self.assertIsNone(player.step())
        player.say([("X", "Y")])
        self.assertEqual(player.step(), (0, ("X", "a")))

    def test_facts_with_names_that_stand_for_others(self):
        player = Quick(self.book, pool_of(self.book, "e(a,b)", [("X", "a"), ("Y", "Z")]))
        player.add([("p", ("X",)), ("q", ("Z", "Y"))])
        self.assertEqual(pool_text(player.now()), "p(a), q(Y,Y); e(a,b); X=a, Z=Y")
        self.assertEqual(sorted(player.run(9)), [(0, ("a", "b")), (1, ("Y",))])

    def test_names_alone_become_known(self):
        player = Quick(self.book, EMPTY)
        player.say([("V", "V"), ("X", "Y")])
        self.assertEqual(player.now(), ((), (), (("V", "V"), ("X", "X"), ("Y", "X")), False))

    def test_unlike_words_told_the_same(self):
        player = Quick(self.book, pool_of(self.book, "q(X,X), p(a)"))
        player.say([("X", "a"), ("X", "b")])
        self.assertEqual(player.now(), BROKEN)
        self.assertIsNone(player.step())
        player.add([("q", ("a", "a"))])
        player.say([("X", "Y")])
        self.assertEqual(player.now(), BROKEN)
        self.assertIsNone(player.step())
        self.assertEqual(player.called(), [])

    def test_refused_facts_change_nothing(self):
        for pool in (pool_of(self.book, "p(a), q(X,Y)"), BROKEN, EMPTY):
            for facts, error in (
                ([("x", ())], NoKind), ([("p", ())], BadArgs), ([("n", ()), ("p", ("a", "b"))], BadArgs),
                ([("e", ("a", "b")), ("z", ("a",)), ("p", ())], NoKind), ([("e", ("a", "b")), ("p", ()), ("z", ("a",))], BadArgs),
                ([("p", ("a",)), ("e", ("a", "b")), ("m", ("a",))], BadArgs),
            ):
                player = Quick(self.book, pool)
                refused(self, error, player.add, facts)
                self.assertEqual(player.now(), pool)
                self.assertIsNone(player.step())
                self.assertEqual(player.called(), [])

    def test_what_is_handed_in_is_copied(self):
        facts = [("p", ("a",))]
        pairs = [("X", "Y")]
        player = Quick(self.book, EMPTY)
        player.add(facts)
        player.say(pairs)
        self.assertEqual((facts, pairs), ([("p", ("a",))], [("X", "Y")]))
        facts.clear()
        pairs.append(("a", "b"))
        self.assertEqual(pool_text(player.now()), "p(a); ; Y=X")


class CalledTest(unittest.TestCase):
    def test_call_ins_are_remembered_and_taking_steps_are_not(self):
        book = book_of("rule t: take n\nrule r: keep e(A,B); put e(B,A)\nrule s: keep m; tell X1 = X1".replace("X1", "a"))
        player = Quick(book, pool_of(book, "n, m, e(a,b), e(c,c)"))
        self.assertEqual(player.called(), [])
        self.assertEqual(len(player.run(9)), 2)
        self.assertEqual(player.called(), [(1, ("a", "b"))])
        player.add([("e", ("X", "b"))])
        player.run(9)
        self.assertEqual(player.called(), [(1, ("X", "b")), (1, ("a", "b"))])

    def test_behind_names_told_the_same(self):
        book = book_of("rule r: keep e(A,B); put e(B,A)")
        player = Quick(book, pool_of(book, "e(X,b), e(Y,b)"))
        self.assertEqual(len(player.run(9)), 2)
        self.assertEqual(player.called(), [(0, ("X", "b")), (0, ("Y", "b"))])
        player.say([("X", "Y")])
        self.assertEqual(player.called(), [(0, ("X", "b"))])
        self.assertEqual(player.run(9), [])
        player.say([("Y", "c")])
        self.assertEqual(player.called(), [(0, ("c", "b"))])
        player.say([("c", "b")])
        self.assertEqual(player.called(), [])

    def test_a_new_player_remembers_nothing(self):
        book = book_of("rule r: keep e(A,B); put e(B,A)")
        player = Quick(book, pool_of(book, "e(a,b)"))
        player.run(9)
        later = Quick(book, player.now())
        self.assertEqual(later.run(9), [])
        self.assertEqual(later.called(), [])

    def test_a_call_in_that_breaks_the_pool(self):
        book = book_of("rule r: keep e(A,B); tell A = B")
        player = Quick(book, pool_of(book, "e(X,a), e(b,c)"))
        player.run(9)
        self.assertEqual((player.now(), player.called()), (BROKEN, []))

    def test_what_is_told_is_the_askers_own(self):
        book = book_of("rule r: keep e(A,B); put e(B,A)")
        player = Quick(book, pool_of(book, "e(a,b), e(b,c)"))
        player.run(9).clear()
        player.called().clear()
        self.assertEqual(len(player.called()), 2)
        now = player.now()
        kept = repr(now)
        player.add([("n", ())])
        self.assertEqual(repr(now), kept)


class TwoPlayersTest(unittest.TestCase):
    def test_two_players_of_one_book_do_not_meet(self):
        book = book_of("rule r: take p(A); put q(A,A)\nrule s: keep e(A,B); put e(B,A)")
        kept = vars_of(book)
        pool = pool_of(book, "p(a), e(a,b)")
        one = Quick(book, pool)
        other = Quick(book, pool)
        one.run(9)
        one.add([("p", ("b",))])
        one.say([("X", "a")])
        self.assertEqual((other.now(), other.called()), (pool, []))
        self.assertEqual(len(other.run(9)), 2)
        self.assertEqual(other.called(), [(1, ("a", "b"))])
        self.assertEqual(pool_text(one.now()), "p(b), q(a,a); e(a,b), e(b,a); X=a")
        self.assertEqual(vars_of(book), kept)


class ChanceTest(unittest.TestCase):
    def test_what_it_tells_is_a_play_of_the_plain_player(self):
        chance = random.Random(101)
        ended = 0
        done = 0
        for _ in range(500):
            book = chance_book(chance, size=chance.choice((1, 2, 3)))
            pool = chance_pool(chance, book)
            player = Quick(book, pool)
            calls = []
            for _ in range(5):
                for step in player.run(chance.randint(-1, 5)):
                    pool = self.stepped(book, pool, step, calls)
                    done += 1
                self.assertEqual(player.now(), pool)
                step = player.step()
                if step is None:
                    self.assertEqual(steps_plainly(book, pool), [], (book_text(book), pool))
                    ended += 1
                else:
                    pool = self.stepped(book, pool, step, calls)
                self.check_called(player, pool, calls)
                facts = [chance_fact(chance, book.kinds, ("a", "b", "X", "Y", "W")) for _ in range(chance.randint(0, 2))]
                player.add(facts)
                pool = moved(book.kinds, pool, [], facts, [])
                pairs = [(chance.choice("abXYW"), chance.choice("XYWZ"))] if chance.random() < 0.3 else []
                player.say(pairs)
                pool = moved(book.kinds, pool, [], [], pairs)
                self.assertEqual(player.now(), pool)
                self.check_called(player, pool, calls)
        self.assertGreater(done, 300)
        self.assertGreater(ended, 300)

    def stepped(self, book, pool, step, calls):
        self.assertTrue(fits_plainly(book, pool, step), (book_text(book), pool, step))
        if book.rules[step[0]].calls():
            self.assertNotIn(step, self.written(pool, calls))
            calls.append(step)
        return after_plainly(book, pool, step)

    def written(self, pool, calls):
        stand = dict(pool[2])
        return sorted({(step[0], tuple(stand.get(name, name) for name in step[1])) for step in calls})

    def check_called(self, player, pool, calls):
        self.assertEqual(player.called(), [] if pool == BROKEN else self.written(pool, calls))

    def test_it_comes_to_an_end_where_the_plain_player_does(self):
        book = book_of("rule r: keep e(A,B), e(B,C); put e(A,C)\nrule s: take p(A); keep e(A,B); look A unlike B; put q(A,B)")
        pool = pool_of(book, "e(a,b), e(b,c), e(c,d), p(a), p(c), p(d)")
        player = Quick(book, pool)
        player.run(99)
        self.assertEqual(player.now()[1], first_play(book, pool, 99)[1][1])
        self.assertEqual(steps_plainly(book, player.now()), [])


class SizeTest(unittest.TestCase):
    def test_great_pools_are_played_without_a_long_wait(self):
        start = time.monotonic()
        book = book_of(
            "rule r: keep e(A,B), e(B,C); put e(A,C)\nrule s: take p(A), p(B); put p(A)\n"
            "rule t: take q(A,B), q(B,C); look A unlike C; put q(A,C)\nrule u: keep q(A,B); tell A = B\n"
            "rule v: keep p(A), p(B), p(C), p(D); put m")
        row = [f"e(v{k},v{(k + 1) % 13})" for k in range(13)] + [f"p(t{k})" for k in range(80)]
        row += [f"q(N{k},N{(k * 7 + 1) % 60})" for k in range(40)]
        pool = pool_of(book, ", ".join(row))
        player = Quick(book, pool)
        done = player.run(9999)
        self.assertGreater(len(done), 200)
        self.assertEqual(first_play(book, player.now(), 1)[0], [])
        for number in range(100):
            player.add([("p", ("x" + str(number),))])
            player.run(5)
        self.assertEqual(len(player.now()[0]), len([fact for fact in player.now()[0] if fact[0] == "q"]) + 1)
        self.assertLess(time.monotonic() - start, 20)


if __name__ == "__main__":
    unittest.main()
