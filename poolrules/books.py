"""Books: kinds of facts and rules, how they are read and written."""

from poolrules.errors import BadCall, BadTake, NoName, Twice
from poolrules.facts import facts_text, is_great
from poolrules.pools import check_facts, check_taken
from poolrules.reader import RULE_WORD, line_pieces, read_kind, read_rule, told_lines


class Rule:
    def __init__(self, title, parts):
        self.title = title
        self.taken = parts.get("take", [])
        self.kept = parts.get("keep", [])
        self.looks = parts.get("look", [])
        self.given = parts.get("put", [])
        self.told = parts.get("tell", [])
        self.names = open_names(self.taken + self.kept)

    def calls(self):
        return len(self.taken) == 0


class Book:
    def __init__(self, kinds, rules):
        self.kinds = kinds
        self.rules = rules


def open_names(facts):
    found = {}
    for fact in facts:
        for name in fact[1]:
            if is_great(name):
                found[name] = True
    return list(found)


def read_book(text):
    kinds = []
    rules = []
    for line in told_lines(text):
        hear_line(kinds, rules, line)
    return whole_book(kinds, rules)


# The first go, of one line: it tells one kind or one rule more.
def hear_line(kinds, rules, line):
    found = line_pieces(line)
    if found[0] == RULE_WORD:
        reading = read_rule(found)
        if reading[0] in [rule.title for rule in rules]:
            raise Twice(f"an earlier rule has this name: {line!r}")
        rules.append(Rule(reading[0], reading[1]))
    else:
        kind = read_kind(found)
        if kind[0] in [earlier[0] for earlier in kinds]:
            raise Twice(f"an earlier kind has this name: {line!r}")
        kinds.append(kind)


# The second go: only now all kinds are told, as they may stand behind the rules.
def whole_book(kinds, rules):
    lasts = [kind[0] for kind in kinds if kind[2]]
    for rule in rules:
        check_facts(kinds, rule.taken + rule.kept + rule.given)
        check_taken(lasts, rule.taken)
        check_call(lasts, rule)
        check_names(rule)
    return Book(kinds, rules)


def check_call(lasts, rule):
    if not rule.calls():
        return
    for fact in rule.given:
        if fact[0] not in lasts:
            raise BadCall(f"a call-in puts no passing fact: {fact!r}")


def check_names(rule):
    for name in said_names(rule):
        if is_great(name) and name not in rule.names:
            raise NoName(f"it stands in no head of the rule: {name!r}")


def said_names(rule):
    said = []
    for look in rule.looks:
        said.extend([look.left, look.right])
    for fact in rule.given:
        said.extend(fact[1])
    for pair in rule.told:
        said.extend(pair)
    return said


def book_text(book):
    lines = [kind_text(kind) for kind in book.kinds]
    return "\n".join(lines + [rule_text(rule) for rule in book.rules])


def kind_text(kind):
    word = "lasting" if kind[2] else "passing"
    return " ".join([word, kind[0], str(kind[1])])


def rule_text(rule):
    looks = [" ".join([look.left, look.word(), look.right]) for look in rule.looks]
    pairs = [" = ".join(pair) for pair in rule.told]
    parts = [
        part_text("take", facts_text(rule.taken)),
        part_text("keep", facts_text(rule.kept)),
        part_text("look", ", ".join(looks)),
        part_text("put", facts_text(rule.given)),
        part_text("tell", ", ".join(pairs)),
    ]
    return "rule " + rule.title + ": " + "; ".join([part for part in parts if part != ""])


# A part without members is one that the rule has not.
def part_text(word, members):
    if members == "":
        return ""
    return word + " " + members
