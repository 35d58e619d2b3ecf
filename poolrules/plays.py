"""Plays: step by step from a pool, by picks or always by the first step, and all ends."""

from poolrules.errors import TooGreat
from poolrules.plain import Player, behind


def play(book, pool, picks):
    player = Player(book)
    done = []
    for pick in picks:
        fitting = player.fitting(pool)
        if len(fitting) == 0:
            break
        step = fitting[pick % len(fitting)]
        done.append(step)
        pool = behind(book, pool, step)
    return (done, pool)


def first_play(book, pool, most):
    player = Player(book)
    done = []
    while len(done) < most:
        step = player.foremost(pool)
        if step is None:
            break
        done.append(step)
        pool = behind(book, pool, step)
    return (done, pool)


def ends(book, pool, most):
    player = Player(book)
    found = []
    seen = {}
    waiting = [pool]
    come_to(seen, pool, most)
    while len(waiting) > 0:
        here = waiting.pop()
        fitting = player.fitting(here)
        if len(fitting) == 0:
            found.append(here)
        for step in fitting:
            later = behind(book, here, step)
            if later not in seen:
                come_to(seen, later, most)
                waiting.append(later)
    return sorted(found)


# Refused as soon as one pool is too many: there may be no end of pools.
def come_to(seen, pool, most):
    seen[pool] = True
    if len(seen) > most:
        raise TooGreat(f"more pools can be come to than {most!r}")
