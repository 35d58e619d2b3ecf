"""What several tests share: books and pools made by chance, and the document's words said over once more."""

import copy
import itertools

from poolrules.books import book_text, read_book
from poolrules.facts import read_facts
from poolrules.pools import moved, start_pool

EMPTY = ((), (), (), False)
BROKEN = ((), (), (), True)


def pool_of(book, row, told=()):
    return moved(book.kinds, start_pool(book.kinds, read_facts(row)), [], [], list(told))


def refused(test, error, deed, *handed):
    """The refusal is of this very class, and what was handed in is as it was."""
    kept = shown(handed)
    with test.assertRaises(error) as caught:
        deed(*handed)
    test.assertIs(type(caught.exception), error)
    test.assertEqual(shown(handed), kept)


def shown(handed):
    return [copy.deepcopy(vars_of(value)) for value in handed]


def vars_of(value):
    if hasattr(value, "kinds"):
        return (list(value.kinds), [vars_of(rule) for rule in value.rules])
    if hasattr(value, "taken"):
        looks = [(look.left, look.word(), look.right) for look in value.looks]
        return (value.title, value.taken, value.kept, looks, value.given, value.told, value.names)
    return value


# ---- the document's words, said as plainly as can be

def is_open(name):
    return name[0].isupper()


def put_in(names, values, fact):
    return (fact[0], tuple(put_name(names, values, name) for name in fact[1]))


def put_name(names, values, name):
    return values[names.index(name)] if name in names else name


def fits_plainly(book, pool, step):
    """[12], of a step that the book has."""
    if pool[3]:
        return False
    rule = book.rules[step[0]]
    for look in rule.looks:
        one = put_name(rule.names, step[1], look.left)
        other = put_name(rule.names, step[1], look.right)
        if look.word() == "same" and one != other:
            return False
        if look.word() == "unlike" and (is_open(one) or is_open(other) or one == other):
            return False
    left = list(pool[0])
    lasts = [kind[0] for kind in book.kinds if kind[2]]
    for head in rule.taken + rule.kept:
        fact = put_in(rule.names, step[1], head)
        if fact[0] in lasts:
            if fact not in pool[1]:
                return False
        elif fact in left:
            left.remove(fact)
        else:
            return False
    if rule.taken:
        return True
    for fact in rule.given:
        if put_in(rule.names, step[1], fact) not in pool[1]:
            return True
    for one, other in rule.told:
        if put_name(rule.names, step[1], one) != put_name(rule.names, step[1], other):
            return True
    return False


def names_in(pool):
    return sorted({name for fact in pool[0] + pool[1] for name in fact[1]})


def steps_plainly(book, pool):
    """All steps over the pool's names, tried one by one."""
    found = []
    for number, rule in enumerate(book.rules):
        for values in itertools.product(names_in(pool), repeat=len(rule.names)):
            if fits_plainly(book, pool, (number, values)):
                found.append((number, values))
    return sorted(found)


def after_plainly(book, pool, step):
    """[13], over the change of [7]."""
    rule = book.rules[step[0]]
    taken = [put_in(rule.names, step[1], fact) for fact in rule.taken]
    given = [put_in(rule.names, step[1], fact) for fact in rule.given]
    told = [tuple(put_name(rule.names, step[1], name) for name in pair) for pair in rule.told]
    return moved(book.kinds, pool, taken, given, told)


def walk(test, book, pool, steps):
    """The pool behind a play, each step of which must fit."""
    for step in steps:
        test.assertTrue(fits_plainly(book, pool, step), (book_text(book), pool, step))
        pool = after_plainly(book, pool, step)
    return pool


# ---- books and pools by chance

def chance_fact(chance, kinds, names):
    kind = chance.choice(kinds)
    return (kind[0], tuple(chance.choice(names) for _ in range(kind[1])))


def fact_line(fact):
    return fact[0] + ("(" + ",".join(fact[1]) + ")" if fact[1] else "")


def row_line(facts):
    return ", ".join(fact_line(fact) for fact in facts)


def chance_rule(chance, kinds, title, size, words=("a", "b")):
    passing = [kind for kind in kinds if not kind[2]]
    lasting = [kind for kind in kinds if kind[2]]
    names = ["A", "B", "C", "D"][:chance.randint(1, 4)] + list(words)[:chance.randint(0, len(words))]
    taken = []
    if passing and (not lasting or chance.random() < 0.7):
        taken = [chance_fact(chance, passing, names) for _ in range(chance.randint(1, size))]
    kept = [chance_fact(chance, kinds, names) for _ in range(chance.randint(0 if taken else 1, size))]
    heads = {name for fact in taken + kept for name in fact[1]}
    said = sorted(heads) + list(words)
    parts = []
    if taken:
        parts.append("take " + row_line(taken))
    if kept:
        parts.append("keep " + row_line(kept))
    looks = []
    for _ in range(chance.choice((0, 0, 0, 1, 2))):
        looks.append(f"{chance.choice(said)} {chance.choice(('same', 'unlike'))} {chance.choice(said)}")
    if looks:
        parts.append("look " + ", ".join(looks))
    given = [chance_fact(chance, kinds if taken else lasting, said) for _ in range(chance.randint(0, size))] \
        if taken or lasting else []
    if given:
        parts.append("put " + row_line(given))
    pairs = [f"{chance.choice(said)} = {chance.choice(said)}" for _ in range(chance.choice((0, 0, 1, 2)))]
    if pairs:
        parts.append("tell " + ", ".join(pairs))
    return f"rule {title}: " + "; ".join(parts)


def chance_kinds(chance, most=4):
    return [
        ("k" + str(number), chance.choice((0, 1, 1, 2, 2, 3)), chance.random() < 0.4)
        for number in range(chance.randint(1, most))
    ]


def chance_book(chance, rules=3, size=2):
    kinds = chance_kinds(chance)
    lines = [f"{'lasting' if kind[2] else 'passing'} {kind[0]} {kind[1]}" for kind in kinds]
    lines += [chance_rule(chance, kinds, "r" + str(number), size) for number in range(chance.randint(1, rules))]
    return read_book("\n".join(lines))


def chance_pool(chance, book, most=8, names=("a", "b", "c", "X", "Y", "Z1")):
    facts = [chance_fact(chance, book.kinds, names) for _ in range(chance.randint(0, most))]
    pairs = [(chance.choice(names), chance.choice(names[3:])) for _ in range(chance.choice((0, 0, 0, 1, 2)))]
    return moved(book.kinds, EMPTY, [], facts, pairs)


def small_book(chance):
    """A book with at most three passing heads and one look unlike in a rule, and two words."""
    kinds = chance_kinds(chance, 3)
    passing = [kind for kind in kinds if not kind[2]] or [("z", 1, False)]
    lasting = [kind for kind in kinds if kind[2]]
    kinds = passing + lasting
    lines = [f"{'lasting' if kind[2] else 'passing'} {kind[0]} {kind[1]}" for kind in kinds]
    for number in range(chance.randint(1, 2)):
        names = ["A", "B", "C"][:chance.randint(1, 3)] + ["a", "b"][:chance.choice((0, 0, 1, 2))]
        heads = [chance_fact(chance, passing, names) for _ in range(chance.randint(1, 3))]
        takes = chance.randint(0 if lasting else 1, len(heads))
        kept = heads[takes:] + [chance_fact(chance, lasting, names) for _ in range(chance.randint(0, 1)) if lasting]
        said = sorted({name for fact in heads + kept for name in fact[1]}) + ["a"]
        parts = ["take " + row_line(heads[:takes])] if takes else []
        parts += ["keep " + row_line(kept)] if kept else []
        looks = [f"{chance.choice(said)} same {chance.choice(said)}"] if chance.random() < 0.3 else []
        looks += [f"{chance.choice(said)} unlike {chance.choice(said)}"] if chance.random() < 0.5 else []
        parts += ["look " + ", ".join(looks)] if looks else []
        given = [chance_fact(chance, kinds if takes else lasting, said) for _ in range(chance.randint(0, 2))]
        parts += ["put " + row_line(given)] if given else []
        parts += [f"tell {chance.choice(said)} = {chance.choice(said)}"] if chance.random() < 0.4 else []
        lines.append(f"rule r{number}: " + "; ".join(parts))
    return read_book("\n".join(lines))
