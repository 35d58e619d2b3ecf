"""Overlaps: the least pools in which two steps meet."""

from poolrules.books import said_names
from poolrules.facts import is_great
from poolrules.plain import fits
from poolrules.pools import start_pool, written
from poolrules.sharing import Side, matchings, shared_names


def overlaps(book):
    words = said_words(book)
    found = []
    for pair in rule_pairs(book):
        found.extend(meetings(book, words, pair[0], pair[1]))
    return found


def rule_pairs(book):
    numbers = list(range(len(book.rules)))
    pairs = []
    for first in numbers:
        pairs.extend([(first, second) for second in numbers[first:]])
    return pairs


def said_words(book):
    said = {}
    for rule in book.rules:
        for fact in rule.taken + rule.kept:
            said.update(dict([(name, True) for name in fact[1]]))
        said.update(dict([(name, True) for name in said_names(rule)]))
    return [name for name in said if not is_great(name)]


# The overlaps of two rules, or of one rule with itself, each once.
def meetings(book, words, first, second):
    one = Side(book, first, "A")
    other = Side(book, second, "B")
    found = {}
    for pairs in matchings(one, other):
        if first == second and is_turned(pairs):
            continue
        stand = shared_names(one, other, pairs)
        if stand is not None:
            mates = [pair[1] for pair in pairs]
            found.update(dict([(overlap, True) for overlap in met(book, words, one, other, mates, stand)]))
    return list(found)


# Of one rule with itself, a matching and the same one the other way round tell
# the same overlaps; the greater of the two is left out.
def is_turned(pairs):
    return sorted([(pair[1], pair[0]) for pair in pairs]) < sorted(pairs)


def met(book, words, one, other, mates, stand):
    heads = one.passing + one.lasting + other.lasting
    heads = heads + [fact for place, fact in enumerate(other.passing) if place not in mates]
    found = []
    for naming in namings(words, one, other, stand):
        first = (one.number, tuple([naming[name] for name in one.names]))
        second = (other.number, tuple([naming[name] for name in other.names]))
        if first == second:
            continue
        pool = start_pool(book.kinds, [written(naming, fact) for fact in heads])
        if meets(book, pool, first) and meets(book, pool, second):
            found.append((pool, first, second))
    return found


# All heads are there and all looks hold, so only a call-in may not fit.
def meets(book, pool, step):
    return not book.rules[step[0]].calls() or fits(book, pool, step)


# All ways to name what the names of both sides stand for: open names by their
# turn, those of looks at unlike words by words. Naming by turns, old words and
# new ones too, tells overlaps alike but for an exchange of names just once.
def namings(words, one, other, stand):
    unlike = [(stand.get(pair[0], pair[0]), stand.get(pair[1], pair[1])) for pair in one.unlike + other.unlike]
    asked = {}
    for pair in unlike:
        asked.update(dict([(name, True) for name in pair]))
    turns = in_turn([stand[name] for name in one.names + other.names])
    chosen = [name for name in turns if name in asked]
    given = name_open([name for name in turns if name not in asked])
    found = []
    for picks in word_choices(words, len(chosen)):
        naming = dict(given)
        naming.update(dict(zip(chosen, picks)))
        if all([naming.get(pair[0], pair[0]) != naming.get(pair[1], pair[1]) for pair in unlike]):
            found.append(whole_naming(naming, stand))
    return found


def in_turn(names):
    return list(dict([(name, True) for name in names if is_great(name)]))


def name_open(names):
    return dict([(name, "X" + str(turn + 1)) for turn, name in enumerate(names)])


def whole_naming(naming, stand):
    return dict([(name, naming.get(chief, chief)) for name, chief in stand.items()])


# Each choice is a list of words: said ones, new ones that stand there already,
# or the next new one.
def word_choices(words, length):
    fresh = new_words(words, length)
    choices = [([], 0)]
    for turn in range(length):
        longer = []
        for choice in choices:
            longer.extend([(choice[0] + [word], choice[1]) for word in words + fresh[:choice[1]]])
            longer.append((choice[0] + [fresh[choice[1]]], choice[1] + 1))
        choices = longer
    return [choice[0] for choice in choices]


def new_words(words, length):
    found = []
    number = 1
    while len(found) < length:
        word = "n" + str(number)
        if word not in words:
            found.append(word)
        number += 1
    return found
