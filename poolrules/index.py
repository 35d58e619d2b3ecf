"""The index: a pool's facts laid out for finding, kept up as they come and go."""

from poolrules.plain import Layout, keys_of
from poolrules.pools import written


class Index(Layout):
    def put_passing(self, fact, times):
        if fact not in self.counts:
            self.lay(fact)
        self.counts[fact] = self.counts.get(fact, 0) + times

    def put_lasting(self, fact):
        if fact not in self.lasting:
            self.lay(fact)
            self.lasting[fact] = True

    def take(self, fact):
        self.counts[fact] -= 1
        if self.counts[fact] == 0:
            self.counts.pop(fact)
            self.lift(fact)

    def lift(self, fact):
        for key in keys_of(fact):
            row = self.shelf[key]
            row.pop(fact)
            if len(row) == 0:
                self.shelf.pop(key)

    # Writes one name as another in all facts, and tells those written anew.
    def retell(self, name, chief):
        stand = {name: chief}
        passing = [fact for fact in self.counts if name in fact[1]]
        lasting = [fact for fact in self.lasting if name in fact[1]]
        for fact in passing:
            times = self.counts.pop(fact)
            self.lift(fact)
            self.put_passing(written(stand, fact), times)
        for fact in lasting:
            self.lasting.pop(fact)
            self.lift(fact)
            self.put_lasting(written(stand, fact))
        return [written(stand, fact) for fact in passing + lasting]
