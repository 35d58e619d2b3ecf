"""The memory: which call-ins were done, and which facts are still to be tried."""


class Memory:
    def __init__(self):
        self.done = []
        self.waiting = []
        self.awake = {}

    # A fact waits until it is tried to no avail. Whatever comes to fit has a
    # fact that came, or was written anew, behind the last try, so the others
    # need not be tried again.
    def wake(self, fact):
        if fact not in self.awake:
            self.awake[fact] = True
            self.waiting.append(fact)

    # The fact to be tried now, or None.
    def foremost(self):
        if len(self.waiting) == 0:
            return None
        return self.waiting[-1]

    def lull(self):
        self.awake.pop(self.waiting.pop())

    def remember(self, step):
        self.done.append(step)

    # The call-ins done, written with what their names stand for now.
    def recalled(self, stand):
        return sorted(set([(step[0], tuple([stand.get(name, name) for name in step[1]])) for step in self.done]))

    def forget(self):
        self.done = []
        self.waiting = []
        self.awake = {}
