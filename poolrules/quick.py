"""The quick player: it finds its steps by an index and a memory."""

from poolrules.finding import Finder
from poolrules.memory import Memory
from poolrules.plain import pair_written
from poolrules.pools import check_facts, written
from poolrules.store import Store


class Quick:
    def __init__(self, book, pool):
        self.kinds = list(book.kinds)
        self.rules = list(book.rules)
        self.finder = Finder(book)
        self.memory = Memory()
        self.store = Store(book.kinds, pool)
        self.wake_all(self.store.facts())

    def step(self):
        fact = self.memory.foremost()
        while fact is not None:
            ways = self.finder.ways(self.store.index, fact, 1) if self.store.index.has(fact) else []
            if len(ways) > 0:
                self.do(ways[0])
                return ways[0]
            self.memory.lull()
            fact = self.memory.foremost()
        return None

    def run(self, most):
        done = []
        while len(done) < most:
            step = self.step()
            if step is None:
                break
            done.append(step)
        return done

    def now(self):
        return self.store.whole()

    def add(self, facts):
        check_facts(self.kinds, facts)
        self.change([], facts, [])

    def say(self, pairs):
        self.change([], [], pairs)

    def called(self):
        return self.memory.recalled(self.store.stand)

    def do(self, step):
        rule = self.rules[step[0]]
        stand = dict(zip(rule.names, step[1]))
        if rule.calls():
            self.memory.remember(step)
        taken = [written(stand, fact) for fact in rule.taken]
        put = [written(stand, fact) for fact in rule.given]
        self.change(taken, put, [pair_written(stand, pair) for pair in rule.told])

    def change(self, taken, put, told):
        if self.store.broken:
            return
        for fact in taken:
            self.store.take(fact)
        for fact in put:
            self.wake_all(self.store.put(fact))
        for pair in told:
            self.wake_all(self.store.tell(pair))
        if self.store.broken:
            self.memory.forget()

    def wake_all(self, facts):
        for fact in facts:
            self.memory.wake(fact)
