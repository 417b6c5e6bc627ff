"""Always enough for a wish: the least such number, and a worst laying that does not meet it."""

from pebbletoll.errors import NoWorst
from pebbletoll.layings import total
from pebbletoll.ways import ahead, inward, kids
from pebbletoll.webs import toll
from pebbletoll.wishes import wish_of


def pile_need(web, wish, v):
    return needs(web, wish, v)[v]


# Seen from r, the least pile at each place that meets the wish for all beneath it.
def needs(web, wish, r):
    found = list(wish_of(web, wish))
    for place, front in inward(web, r):
        found[front] += found[place] * toll(web, front, place)
    return found


def always(web, wish):
    if is_idle(web, wish):
        return 0
    return total(fails(web, wish)) + 1


def fails(web, wish):
    if is_idle(web, wish):
        raise NoWorst("each laying meets a wish of noughts alone")
    wanted_at = [place for place in range(web.many) if wish[place] > 0]
    return failing(web, wish, wanted_at[0])


def is_idle(web, wish):
    return total(wish_of(web, wish)) == 0


# One of the greatest layings that do not meet the wish, found by a look from
# r, where something is wanted.
def failing(web, wish, r):
    return tuple(greatest_load(Outlook(web, wish, r), r, -1))


class Outlook:
    def __init__(self, web, wish, r):
        self.web = web
        self.needs = needs(web, wish, r)
        self.kids = [kids(web, place, front) for place, front in enumerate(ahead(web, r))]
        self.idle = [None] * web.many
        # A load asks for the idle loads of the kids, so those go first.
        for place, front in inward(web, r):
            self.idle[place] = idle_load(self, place, front)


# A load is a list of what lies at each place of the whole web: so the loads of
# kids are added up, and the greatest load is a laying itself.
def idle_load(outlook, place, front):
    if outlook.needs[place] > 0:
        return idle_kids(outlook, place, None)
    return greatest_load(outlook, place, toll(outlook.web, place, front) - 1)


def idle_kids(outlook, place, left_out):
    load = [0] * outlook.web.many
    for kid in outlook.kids[place]:
        if kid != left_out:
            load = added(load, outlook.idle[kid])
    return load


def added(one, other):
    return [left + right for left, right in zip(one, other)]


def greatest_load(outlook, place, over):
    room = outlook.needs[place] + over
    best = idle_kids(outlook, place, None)
    best[place] += room
    for kid in outlook.kids[place]:
        load = load_by(outlook, place, kid, room)
        if total(load) > total(best):
            best = load
    return best


# The greatest load in which one kid alone is of use to the place.
def load_by(outlook, place, kid, room):
    given = room - outlook.needs[kid] * toll(outlook.web, place, kid)
    over = toll(outlook.web, kid, place) * (given + 1) - 1
    return added(greatest_load(outlook, kid, over), idle_kids(outlook, place, kid))
