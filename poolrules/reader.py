"""The lines of books and sessions, and how their parts are read."""

from poolrules.errors import NoLine
from poolrules.facts import is_name, is_small_word, name_end, piece_at, pieces, row_of_facts
from poolrules.looks import Same, Unlike

LINE_MARKS = "(),:;="
KIND_WORDS = ("passing", "lasting")
RULE_WORD = "rule"
PART_WORDS = ("take", "keep", "look", "put", "tell")
COUNTS = ("0", "1", "2", "3", "4")


def told_lines(text):
    return [line for line in text.split("\n") if is_told(line)]


def is_told(line):
    bare = line.strip(" ")
    return bare != "" and bare[0] != "#"


# Whether a line, by its first name, can be one of a book's alone.
def is_book_line(line):
    bare = line.strip(" ")
    word = bare[:name_end(bare, 0)]
    return word == RULE_WORD or word in KIND_WORDS


def line_pieces(line):
    return pieces(line, LINE_MARKS)


def read_kind(found):
    if len(found) != 3 or found[0] not in KIND_WORDS:
        raise NoLine(f"no line of a kind: {found!r}")
    if not is_small_word(found[1]):
        raise NoLine(f"no name of a kind: {found!r}")
    if found[2] not in COUNTS:
        raise NoLine(f"no number of arguments: {found!r}")
    return (found[1], int(found[2]), found[0] == "lasting")


# Tells a rule's name and a dict of its parts, each under its word.
def read_rule(found):
    title = piece_at(found, 1)
    if piece_at(found, 0) != RULE_WORD or not is_small_word(title) or piece_at(found, 2) != ":":
        raise NoLine(f"no line of a rule: {found!r}")
    parts = {}
    earliest = 0
    for piece in parted(found[3:], ";"):
        word = piece_at(piece, 0)
        if word not in PART_WORDS[earliest:]:
            raise NoLine(f"no part of a rule that may stand here: {piece!r}")
        earliest = PART_WORDS.index(word) + 1
        parts[word] = read_part(word, piece[1:])
    if "take" not in parts and "keep" not in parts:
        raise NoLine(f"a rule without heads: {found!r}")
    return (title, parts)


def read_part(word, found):
    if word == "look":
        return read_looks(found)
    if word == "tell":
        return read_pairs(found)
    return row_of_facts(found)


def read_looks(found):
    return [read_look(piece) for piece in parted(found, ",")]


def read_look(found):
    check_two_names(found)
    if found[1] == "same":
        return Same(found[0], found[2])
    if found[1] == "unlike":
        return Unlike(found[0], found[2])
    raise NoLine(f"no look: {found!r}")


def read_pairs(found):
    return [read_pair(piece) for piece in parted(found, ",")]


def read_pair(found):
    check_two_names(found)
    if found[1] != "=":
        raise NoLine(f"no pair: {found!r}")
    return (found[0], found[2])


def check_two_names(found):
    if len(found) != 3 or not is_name(found[0]) or not is_name(found[2]):
        raise NoLine(f"no two names with something between: {found!r}")


def parted(found, mark):
    rows = [[]]
    for piece in found:
        if piece == mark:
            rows.append([])
        else:
            rows[-1].append(piece)
    return rows
