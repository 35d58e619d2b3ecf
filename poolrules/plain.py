"""The plain player: which steps fit a pool, and the pool behind a step."""

from poolrules.errors import NoStep, NotFitting
from poolrules.facts import is_great
from poolrules.pools import know, moved, tell_same, written


def fits(book, pool, step):
    check_step(book, step)
    if pool[3]:
        return False
    rule = book.rules[step[0]]
    stand = dict(zip(rule.names, step[1]))
    if not looks_hold(rule, stand) or not heads_there(book.kinds, rule, stand, pool):
        return False
    return not rule.calls() or changes(rule, stand, pool[1])


def after(book, pool, step):
    if not fits(book, pool, step):
        raise NotFitting(f"it does not fit the pool: {step!r}")
    return behind(book, pool, step)


def steps(book, pool):
    return Player(book).fitting(pool)


# The pool behind a step that is known to fit.
def behind(book, pool, step):
    rule = book.rules[step[0]]
    stand = dict(zip(rule.names, step[1]))
    taken = [written(stand, fact) for fact in rule.taken]
    put = [written(stand, fact) for fact in rule.given]
    return moved(book.kinds, pool, taken, put, [pair_written(stand, pair) for pair in rule.told])


def check_step(book, step):
    if step[0] < 0 or step[0] >= len(book.rules):
        raise NoStep(f"no rule has this number: {step!r}")
    if len(step[1]) != len(book.rules[step[0]].names):
        raise NoStep(f"the rule has another number of open names: {step!r}")


def looks_hold(rule, stand):
    return all([look.holds(stand.get(look.left, look.left), stand.get(look.right, look.right)) for look in rule.looks])


def heads_there(kinds, rule, stand, pool):
    lasts = [kind[0] for kind in kinds if kind[2]]
    heads = [written(stand, fact) for fact in rule.taken + rule.kept]
    for head in heads:
        if head[0] in lasts:
            if head not in pool[1]:
                return False
        elif pool[0].count(head) < heads.count(head):
            return False
    return True


def changes(rule, stand, lasting):
    if any([written(stand, fact) not in lasting for fact in rule.given]):
        return True
    pairs = [pair_written(stand, pair) for pair in rule.told]
    return any([pair[0] != pair[1] for pair in pairs])


def pair_written(stand, pair):
    return (stand.get(pair[0], pair[0]), stand.get(pair[1], pair[1]))


# A pool's facts laid out for searching: each once on the shelf under its kind,
# and under its kind with each of its arguments' places and names.
class Layout:
    def __init__(self, pool):
        self.shelf = {}
        self.counts = {}
        self.lasting = {}
        for fact in pool[0]:
            self.counts[fact] = self.counts.get(fact, 0) + 1
        for fact in pool[1]:
            self.lasting[fact] = True
        for fact in list(self.counts) + list(self.lasting):
            self.lay(fact)

    def lay(self, fact):
        for key in keys_of(fact):
            row = self.shelf.setdefault(key, {})
            row[fact] = True

    def row(self, key):
        return self.shelf.get(key, {})

    def has(self, fact):
        return fact in self.counts or fact in self.lasting


def keys_of(fact):
    return [kind_key(fact[0])] + [(fact[0], place, name) for place, name in enumerate(fact[1])]


def kind_key(kind):
    return (kind, -1, "")


# A rule as a search wants it: what its looks tell to be the same is written as
# one name from the start, so that each fact found narrows the search more (a
# look at two unlike words is left for the search, where it does not hold).
class Reading:
    def __init__(self, rule):
        self.calls_in = rule.calls()
        stand = {}
        know(stand, rule.names)
        for look in rule.looks:
            if look.word() == "same":
                tell_same(stand, look.left, look.right)
        self.looks = [(look, pair_written(stand, (look.left, look.right))) for look in rule.looks]
        self.names = [stand[name] for name in rule.names]
        self.heads = [written(stand, fact) for fact in rule.taken + rule.kept]
        self.given = [written(stand, fact) for fact in rule.given]
        self.told = [pair_written(stand, pair) for pair in rule.told]
        self.words = dict([(name, name) for name in self.said() if not is_great(name)])
        self.loose = loose_heads(self)
        self.wanted = list(dict([(kind_key(head[0]), True) for head in self.heads]))

    def said(self):
        names = list(self.names)
        for fact in self.heads + self.given:
            names.extend(fact[1])
        for pair in self.told + [look[1] for look in self.looks]:
            names.extend(pair)
        return names


# The names of a loose head stand nowhere else where something is asked of them,
# so it is searched for last: no choice of its fact can rule out another one.
def loose_heads(reading):
    asking = [head[1] for head in reading.heads] + [look[1] for look in reading.looks]
    if reading.calls_in:
        asking = asking + [fact[1] for fact in reading.given] + reading.told
    return [head for head in reading.heads if all([asked_once(asking, name) for name in head[1]])]


def asked_once(asking, name):
    return not is_great(name) or len([names for names in asking if name in names]) == 1


# One search for the ways in which a rule's heads are there in a pool. Bound is
# a dict of what the names stand for so far, with the rule's words in it.
class Search:
    def __init__(self, layout, reading, most):
        self.layout = layout
        self.reading = reading
        self.most = most
        self.found = []

    def walk(self, bound, heads):
        if len(self.found) == self.most or not self.hopeful(bound):
            return
        if len(heads) == 0:
            if self.enough(bound):
                self.found.append(bound)
            return
        place = self.narrowest(bound, heads)
        rest = heads[:place] + heads[place + 1:]
        for fact in self.candidates(bound, heads[place]):
            more = matched(bound, heads[place], fact)
            if more is not None:
                self.walk(more, rest)

    # Whether a fitting step may still come of what is bound so far.
    def hopeful(self, bound):
        for look in self.reading.looks:
            pair = look[1]
            if pair[0] in bound and pair[1] in bound and not look[0].holds(bound[pair[0]], bound[pair[1]]):
                return False
        return not self.reading.calls_in or self.may_change(bound)

    def may_change(self, bound):
        for fact in self.reading.given:
            if not is_bound(bound, fact[1]) or written(bound, fact) not in self.layout.lasting:
                return True
        for pair in self.reading.told:
            if not is_bound(bound, pair) or bound[pair[0]] != bound[pair[1]]:
                return True
        return False

    # Several heads may have come to one passing fact, which must be there as often.
    def enough(self, bound):
        wanted = {}
        for head in self.reading.heads:
            fact = written(bound, head)
            wanted[fact] = wanted.get(fact, 0) + 1
            if fact in self.layout.counts and wanted[fact] > self.layout.counts[fact]:
                return False
        return True

    def narrowest(self, bound, heads):
        if len(heads) == 1:
            return 0
        best = 0
        least = None
        for place, head in enumerate(heads):
            width = len(self.candidates(bound, head))
            if width <= 1:
                return place
            order = (head in self.reading.loose, width)
            if least is None or order < least:
                least = order
                best = place
        return best

    # The fewest facts among which all those are that the head can be now.
    def candidates(self, bound, head):
        if is_bound(bound, head[1]):
            fact = written(bound, head)
            return [fact] if self.layout.has(fact) else []
        best = self.layout.row(kind_key(head[0]))
        for place, name in enumerate(head[1]):
            if name in bound:
                row = self.layout.row((head[0], place, bound[name]))
                if len(row) < len(best):
                    best = row
        return best


def is_bound(bound, names):
    return all([name in bound for name in names])


# Tells what is bound with the head read as the fact, or None where it can't be.
def matched(bound, head, fact):
    more = dict(bound)
    for name, value in zip(head[1], fact[1]):
        if more.setdefault(name, value) != value:
            return None
    return more


# Most rules want a kind that a small pool has not, so this is asked first.
def searched(layout, reading, bound, most):
    search = Search(layout, reading, most)
    if all([key in layout.shelf for key in reading.wanted]):
        search.walk(bound, reading.heads)
    return search.found


# The plain player of one book: it reads the rules once for many pools.
class Player:
    def __init__(self, book):
        self.readings = [Reading(rule) for rule in book.rules]

    def fitting(self, pool):
        found = []
        if pool[3]:
            return found
        layout = Layout(pool)
        for number, reading in enumerate(self.readings):
            ways = searched(layout, reading, reading.words, -1)
            found.extend(sorted([(number, names_bound(reading, bound)) for bound in ways]))
        return found

    # The first of all fitting steps, or None; found without finding the others.
    def foremost(self, pool):
        if pool[3]:
            return None
        layout = Layout(pool)
        for number, reading in enumerate(self.readings):
            bound = least_way(layout, reading)
            if bound is not None:
                return (number, names_bound(reading, bound))
        return None


def names_bound(reading, bound):
    return tuple([bound[name] for name in reading.names])


# Any way is found first; then, name by name, it is tried whether a lesser
# value than the found one leads to a way too.
def least_way(layout, reading):
    ways = searched(layout, reading, reading.words, 1)
    if len(ways) == 0:
        return None
    fixed = dict(reading.words)
    for name in reading.names:
        if name in fixed:
            continue
        for value in lesser_values(layout, reading, fixed, name, ways[0][name]):
            trial = dict(fixed)
            trial[name] = value
            better = searched(layout, reading, trial, 1)
            if len(better) > 0:
                ways = better
                break
        fixed[name] = ways[0][name]
    return ways[0]


def lesser_values(layout, reading, fixed, name, most):
    heads = [head for head in reading.heads if name in head[1]]
    place = heads[0][1].index(name)
    facts = Search(layout, reading, -1).candidates(fixed, heads[0])
    return [value for value in sorted(set([fact[1][place] for fact in facts])) if value < most]
