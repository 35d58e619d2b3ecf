"""Names and facts: which texts are names, how facts are written and read."""

from poolrules.errors import NoLine

SMALL = "abcdefghijklmnopqrstuvwxyz"
GREAT = "ABCDEFGHIJKLMNOPQRSTUVWXYZ"
FIGURES = "0123456789"
MARKS = "(),"
LONGEST = 12


def is_word(text):
    return is_name(text) and text[0] not in GREAT


def is_open(text):
    return is_name(text) and text[0] in GREAT


def is_small_word(text):
    return is_name(text) and text[0] in SMALL


def is_name(text):
    return 1 <= len(text) <= LONGEST and all([is_name_sign(sign) for sign in text])


# Of what is known to be a name, the first sign alone tells whether it is open.
def is_great(name):
    return name[0] in GREAT


# Python's isalnum would take letters of other alphabets, too.
def is_name_sign(sign):
    return sign in SMALL or sign in GREAT or sign in FIGURES


def fact_text(fact):
    if len(fact[1]) == 0:
        return fact[0]
    return fact[0] + "(" + ",".join(fact[1]) + ")"


def facts_text(facts):
    return ", ".join([fact_text(fact) for fact in facts])


def read_fact(text):
    found = pieces(text, MARKS)
    reading = fact_at(found, 0)
    if reading[1] != len(found):
        raise NoLine(f"more than one fact: {text!r}")
    return reading[0]


def read_facts(text):
    found = pieces(text, MARKS)
    if len(found) == 0:
        return []
    return row_of_facts(found)


def row_of_facts(found):
    facts = []
    place = 0
    while True:
        reading = fact_at(found, place)
        facts.append(reading[0])
        place = reading[1]
        if place == len(found):
            return facts
        if found[place] != ",":
            raise NoLine(f"no comma behind a fact: {found!r}")
        place += 1


# Blanks part names and mean nothing else, so the pieces are told without them.
def pieces(text, marks):
    found = []
    place = 0
    while place < len(text):
        end = name_end(text, place)
        if end > place:
            found.append(text[place:end])
            place = end
            continue
        sign = text[place]
        if sign in marks:
            found.append(sign)
        elif sign != " ":
            raise NoLine(f"no name and no mark: {sign!r}")
        place += 1
    return found


def name_end(text, start):
    end = start
    while end < len(text) and is_name_sign(text[end]):
        end += 1
    return end


# No piece is the empty text, so it can stand for the end of the pieces.
def piece_at(found, place):
    if place < len(found):
        return found[place]
    return ""


# The readers from a place on tell what they read and the place behind it.
def fact_at(found, place):
    kind = piece_at(found, place)
    if not is_small_word(kind):
        raise NoLine(f"no name of a kind: {kind!r}")
    if piece_at(found, place + 1) != "(":
        return ((kind, ()), place + 1)
    reading = arguments_at(found, place + 2)
    return ((kind, reading[0]), reading[1])


def arguments_at(found, place):
    names = []
    if piece_at(found, place) == ")":
        return ((), place + 1)
    while True:
        name = piece_at(found, place)
        if not is_name(name):
            raise NoLine(f"no argument: {name!r}")
        names.append(name)
        mark = piece_at(found, place + 1)
        place += 2
        if mark == ")":
            return (tuple(names), place)
        if mark != ",":
            raise NoLine(f"no comma or bracket behind an argument: {mark!r}")
