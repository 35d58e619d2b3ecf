"""Deeds: the lines of a session that are not its book's, and how they are read."""

from poolrules.errors import NoLine
from poolrules.facts import FIGURES, row_of_facts
from poolrules.reader import line_pieces, read_pairs

WATCHES = ("stays", "never grows", "never falls")
COUNTED = ("first", "quick", "ends")
ALONE = ("weights", "clash")
LONGEST_COUNT = 3
LONGEST_NUMBER = 60


# Tells a tuple of the deed's words and what stands behind them: a list of
# facts, of pairs or of numbers, a number, or None.
def read_deed(line):
    words = [word for word in line.split(" ") if word != ""]
    for how in WATCHES:
        length = len(how.split(" "))
        if " ".join(words[:length]) == how:
            return (how, [read_number(word) for word in words[length:]])
    return read_plain_deed(line_pieces(line))


def read_plain_deed(found):
    word = found[0]
    rest = found[1:]
    if word == "pool" and len(rest) == 0:
        return (word, [])
    if word in ("pool", "add"):
        return (word, row_of_facts(rest))
    if word == "say":
        return (word, read_pairs(rest))
    if word in COUNTED and len(rest) == 1:
        return (word, read_count(rest[0]))
    if word in ALONE and len(rest) == 0:
        return (word, None)
    raise NoLine(f"no line of a session: {found!r}")


def read_count(text):
    if not is_figures(text, LONGEST_COUNT):
        raise NoLine(f"no number of one to three figures: {text!r}")
    return int(text)


def read_number(text):
    if is_figures(text, LONGEST_NUMBER):
        return int(text)
    if text[0] == "-" and text != "-0" and is_figures(text[1:], LONGEST_NUMBER):
        return int(text)
    raise NoLine(f"no number of one to sixty figures: {text!r}")


# A first nought stands for nought alone.
def is_figures(text, longest):
    if not 1 <= len(text) <= longest or not all([sign in FIGURES for sign in text]):
        return False
    return text[0] != "0" or text == "0"
