"""What two rules can share: their heads matched, and the names told the same thereby."""

from poolrules.pools import know, tell_same, written


# One of the two rules that meet, its open names written with a letter of its
# own, so that the other rule's, or the same rule's once more, are unlike.
class Side:
    def __init__(self, book, number, letter):
        rule = book.rules[number]
        lasts = [kind[0] for kind in book.kinds if kind[2]]
        own = dict([(name, letter + str(place)) for place, name in enumerate(rule.names)])
        heads = [written(own, fact) for fact in rule.taken + rule.kept]
        self.number = number
        self.names = [own[name] for name in rule.names]
        self.passing = [fact for fact in heads if fact[0] not in lasts]
        self.lasting = [fact for fact in heads if fact[0] in lasts]
        self.takes = len(rule.taken)
        self.same = look_pairs(rule, "same", own)
        self.unlike = look_pairs(rule, "unlike", own)


def look_pairs(rule, word, own):
    looks = [look for look in rule.looks if look.word() == word]
    return [(own.get(look.left, look.left), own.get(look.right, look.right)) for look in looks]


# All ways to match one or more passing heads of the one side with as many of
# the other, as lists of pairs of places, so that a pair has a taken head.
def matchings(one, other):
    found = [[]]
    for place, head in enumerate(one.passing):
        longer = []
        for pairs in found:
            longer.extend([pairs + [(place, mate)] for mate in free_mates(other, head, pairs)])
        found = found + longer
    return [pairs for pairs in found if any([has_taken(one, other, pair) for pair in pairs])]


def free_mates(other, head, pairs):
    used = [pair[1] for pair in pairs]
    return [place for place, mate in enumerate(other.passing) if mate[0] == head[0] and place not in used]


# A rule's taken heads are all passing, and stand ahead of its kept ones.
def has_taken(one, other, pair):
    return pair[0] < one.takes or pair[1] < other.takes


# What the names of both sides stand for when the matched heads are one, or
# None where unlike words would have to be the same.
def shared_names(one, other, pairs):
    stand = {}
    know(stand, one.names + other.names)
    told = one.same + other.same
    for pair in pairs:
        told = told + list(zip(one.passing[pair[0]][1], other.passing[pair[1]][1]))
    for names in told:
        if not tell_same(stand, names[0], names[1]):
            return None
    return stand
