"""Looks: what a rule asks of two names ahead of a step."""

from poolrules.facts import is_great


class Look:
    def __init__(self, left, right):
        self.left = left
        self.right = right

    def holds(self, one, other):
        return True

    def word(self):
        return ""


class Same(Look):
    def holds(self, one, other):
        return one == other

    def word(self):
        return "same"


# Open names may still be told the same, so only words are surely unlike.
class Unlike(Look):
    def holds(self, one, other):
        return not is_great(one) and not is_great(other) and one != other

    def word(self):
        return "unlike"
