"""Steps: pebbles that go along a road and pay its toll."""

from pebbletoll.errors import BadStep
from pebbletoll.layings import laying_of
from pebbletoll.webs import is_place, neighbours, toll


def walked(web, laying, steps):
    return layings(web, laying, steps)[-1]


def layings(web, laying, steps):
    passed = [laying_of(web, laying)]
    for at, step in enumerate(steps):
        if not can_be_done(web, passed[-1], step):
            raise BadStep(at)
        passed.append(behind(web, passed[-1], step))
    return passed


def can_be_done(web, laying, step):
    return is_step(web, step) and laying[step[0]] >= taken(web, step)


# Any numbers may stand in a step, so its first one may be no place at all.
def is_step(web, step):
    return is_place(web.many, step[0]) and step[1] in neighbours(web, step[0]) and step[2] >= 1


def taken(web, step):
    return step[2] * toll(web, step[0], step[1])


def behind(web, laying, step):
    counts = list(laying)
    counts[step[0]] -= taken(web, step)
    counts[step[1]] += step[2]
    return tuple(counts)


def spent(web, steps):
    return sum([taken(web, step) - step[2] for step in steps])
