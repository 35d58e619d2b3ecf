"""Finding: the steps that a fact is a head of, by the index."""

from poolrules.plain import Reading, Search, matched, names_bound


class Finder:
    def __init__(self, book):
        self.readings = [Reading(rule) for rule in book.rules]
        self.doors = {}
        for number, reading in enumerate(self.readings):
            for place, head in enumerate(reading.heads):
                self.doors.setdefault(head[0], []).append((number, place))

    # At most so many fitting steps with this fact among their heads; all of
    # them, and some maybe twice, where most is below nought.
    def ways(self, index, fact, most):
        found = []
        for door in self.doors.get(fact[0], []):
            reading = self.readings[door[0]]
            bound = matched(reading.words, reading.heads[door[1]], fact)
            if bound is not None:
                search = Search(index, reading, most - len(found))
                search.walk(bound, reading.heads[:door[1]] + reading.heads[door[1] + 1:])
                found.extend([(door[0], names_bound(reading, way)) for way in search.found])
            if len(found) == most:
                break
        return found
