"""One end or two: plays from the overlaps of a book that has weights."""

from poolrules.errors import NoFall
from poolrules.overlaps import meetings, overlaps, rule_pairs, said_words
from poolrules.plain import Player, behind
from poolrules.weights import weights


# Plays from many pools of one book. Overlaps come to the same pools again and
# again, so the way on from each pool is kept.
class Looker:
    def __init__(self, book):
        self.book = book
        self.player = Player(book)
        self.onward = {}

    # The first step that fits and the pool behind it, or None at an end.
    def way_on(self, pool):
        if pool not in self.onward:
            step = self.player.foremost(pool)
            self.onward[pool] = None if step is None else (step, behind(self.book, pool, step))
        return self.onward[pool]

    # No bound is needed: a book that has weights ends every play.
    def play_to_end(self, pool, step):
        done = [step]
        pool = behind(self.book, pool, step)
        way = self.way_on(pool)
        while way is not None:
            done.append(way[0])
            pool = way[1]
            way = self.way_on(pool)
        return (done, pool)

    def both_plays(self, overlap):
        return [self.play_to_end(overlap[0], step) for step in overlap[1:]]


def looked(book):
    check_falls(book)
    looker = Looker(book)
    found = []
    for overlap in overlaps(book):
        plays = looker.both_plays(overlap)
        found.append((overlap[0], plays[0][0], plays[1][0]))
    return found


# One play from each of the two steps is enough: where in every overlap some two
# of them come together, all plays from every pool do.
def clash(book):
    check_falls(book)
    looker = Looker(book)
    words = said_words(book)
    for pair in rule_pairs(book):
        for overlap in meetings(book, words, pair[0], pair[1]):
            plays = looker.both_plays(overlap)
            if plays[0][1] != plays[1][1]:
                return (overlap[0], plays[0][0], plays[1][0])
    return None


def check_falls(book):
    if weights(book)[0] != "falls":
        raise NoFall("the book has no weights")
