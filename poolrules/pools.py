"""Pools: what they hold, how they are changed and written."""

from poolrules.errors import BadArgs, BadTake, NoFact, NoKind, NoName
from poolrules.facts import facts_text, is_great

EMPTY = ((), (), (), False)
BROKEN = ((), (), (), True)


def start_pool(kinds, facts):
    return moved(kinds, EMPTY, [], facts, [])


def moved(kinds, pool, taken, put, told):
    check_facts(kinds, taken)
    check_facts(kinds, put)
    lasts = [kind[0] for kind in kinds if kind[2]]
    check_taken(lasts, taken)
    if pool[3]:
        return BROKEN
    stand = dict(pool[2])
    left = taken_out(pool[0], [written(stand, fact) for fact in taken])
    for fact in put:
        know(stand, fact[1])
    for pair in told:
        know(stand, pair)
        if not tell_same(stand, pair[0], pair[1]):
            return BROKEN
    lasting = list(pool[1])
    # Names told the same now may stand in facts put in long before.
    if len(told) > 0:
        left = [written(stand, fact) for fact in left]
        lasting = [written(stand, fact) for fact in lasting]
    new = [written(stand, fact) for fact in put]
    passing = left + [fact for fact in new if fact[0] not in lasts]
    lasting = lasting + [fact for fact in new if fact[0] in lasts]
    return (tuple(sorted(passing)), tuple(sorted(set(lasting))), tuple(sorted(stand.items())), False)


def stands_for(pool, name):
    if not is_great(name):
        return name
    for pair in pool[2]:
        if pair[0] == name:
            return pair[1]
    raise NoName(f"not known in the pool: {name!r}")


def pool_text(pool):
    if pool[3]:
        return "broken"
    pairs = [pair[0] + "=" + pair[1] for pair in pool[2] if pair[0] != pair[1]]
    return "; ".join([facts_text(pool[0]), facts_text(pool[1]), ", ".join(pairs)])


def check_facts(kinds, facts):
    counts = dict([(kind[0], kind[1]) for kind in kinds])
    for fact in facts:
        if fact[0] not in counts:
            raise NoKind(f"its kind is not told: {fact!r}")
        if len(fact[1]) != counts[fact[0]]:
            raise BadArgs(f"its kind has another number of arguments: {fact!r}")


def check_taken(lasts, taken):
    for fact in taken:
        if fact[0] in lasts:
            raise BadTake(f"a lasting fact is not to be taken: {fact!r}")


# In a change, stand is a dict of what the known open names stand for; words,
# and open names that are not known, are not in it and stand for themselves.
def written(stand, fact):
    return (fact[0], tuple([stand.get(name, name) for name in fact[1]]))


def taken_out(passing, taken):
    if len(taken) == 0:
        return list(passing)
    wanted = {}
    for fact in taken:
        wanted[fact] = wanted.get(fact, 0) + 1
    left = []
    for fact in passing:
        if wanted.get(fact, 0) > 0:
            wanted[fact] -= 1
        else:
            left.append(fact)
    for fact in taken:
        if wanted[fact] > 0:
            raise NoFact(f"not there as often as it is to be taken: {fact!r}")
    return left


def know(stand, names):
    for name in names:
        if is_great(name):
            stand.setdefault(name, name)


# Tells False where the two stand for unlike words, which breaks the pool.
def tell_same(stand, one, other):
    first = stand.get(one, one)
    second = stand.get(other, other)
    if first == second:
        return True
    if not is_great(first) and not is_great(second):
        return False
    chief = chosen(first, second)
    for name in list(stand):
        if stand[name] in (first, second):
            stand[name] = chief
    return True


def chosen(first, second):
    if not is_great(first):
        return first
    if not is_great(second):
        return second
    return min(first, second)
