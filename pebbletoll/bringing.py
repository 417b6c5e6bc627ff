"""Bringing: the most pebbles that can come to a place, and by which steps."""

from pebbletoll.layings import laying_of
from pebbletoll.ways import inward
from pebbletoll.webs import toll


def gathered(web, laying, r):
    counts = list(laying_of(web, laying))
    for place, front in inward(web, r):
        counts[front] += counts[place] // toll(web, place, front)
    return counts


def most(web, laying, r):
    return gathered(web, laying, r)[r]


def bring(web, laying, r):
    counts = gathered(web, laying, r)
    steps = []
    for place, front in inward(web, r):
        times = counts[place] // toll(web, place, front)
        if times > 0:
            steps.append((place, front, times))
    return steps


# A place without kids leaves its number no choice, and so, one after the
# other, does each place ahead: just one table shows the most.
def shows_most(web, laying, r, table):
    return list(table) == gathered(web, laying, r)
