"""The store: a quick player's pool, changed where it stands."""

from poolrules.index import Index
from poolrules.pools import BROKEN, know, tell_same, written


class Store:
    def __init__(self, kinds, pool):
        self.lasts = [kind[0] for kind in kinds if kind[2]]
        self.stand = dict(pool[2])
        self.index = Index(pool)
        self.broken = pool[3]

    def whole(self):
        if self.broken:
            return BROKEN
        passing = []
        for fact, times in self.index.counts.items():
            passing.extend([fact] * times)
        same = tuple(sorted(self.stand.items()))
        return (tuple(sorted(passing)), tuple(sorted(self.index.lasting)), same, False)

    def facts(self):
        return list(self.index.counts) + list(self.index.lasting)

    def take(self, fact):
        self.index.take(written(self.stand, fact))

    # The changes tell the facts that are new by them, or written anew.
    def put(self, fact):
        know(self.stand, fact[1])
        fact = written(self.stand, fact)
        if fact[0] not in self.lasts:
            self.index.put_passing(fact, 1)
        elif self.index.has(fact):
            return []
        else:
            self.index.put_lasting(fact)
        return [fact]

    def tell(self, pair):
        know(self.stand, pair)
        one = self.stand.get(pair[0], pair[0])
        other = self.stand.get(pair[1], pair[1])
        if not tell_same(self.stand, one, other):
            self.broken = True
            return []
        chief = self.stand.get(one, one)
        name = other if chief == one else one
        return self.index.retell(name, chief) if name != chief else []
