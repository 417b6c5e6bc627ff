"""Webs: places counted from 0, and roads with a toll for each direction."""

from pebbletoll.errors import BadWeb, NoPlace, NoRoad

MOST_PLACES = 24
LEAST_TOLL = 2
MOST_TOLL = 1000000


class Web:
    def __init__(self, many, roads):
        kept = tuple([tuple(road) for road in roads])
        check_counts(many, kept)
        for road in kept:
            check_ends(many, road)
            check_tolls(road)
        check_joined(many, kept)
        self.many = many
        self.roads = kept


def toll(web, a, b):
    check_place(web, a)
    check_place(web, b)
    for one, other, there, back in web.roads:
        if one == a and other == b:
            return there
        if one == b and other == a:
            return back
    raise NoRoad("no road joins these two places")


def neighbours(web, a):
    check_place(web, a)
    return sorted(other_ends(web.roads, a))


def check_place(web, number):
    if not is_place(web.many, number):
        raise NoPlace("the web has no such place")


def is_place(many, number):
    return 0 <= number < many


# The refusals' words name no number: a number of any size may be handed in
# here, and Python does not write out a very long one.


def check_counts(many, roads):
    if not 1 <= many <= MOST_PLACES:
        raise BadWeb("a web has 1 to 24 places")
    if len(roads) != many - 1:
        raise BadWeb("a web has just one road fewer than places")


def check_ends(many, road):
    if not is_place(many, road[0]) or not is_place(many, road[1]):
        raise BadWeb("a road joins what is no place")
    if road[0] == road[1]:
        raise BadWeb("a road joins a place with itself")


def check_tolls(road):
    for number in (road[2], road[3]):
        if not LEAST_TOLL <= number <= MOST_TOLL:
            raise BadWeb("a toll is from 2 to 10 ** 6")


# That there is no round needs no look of its own: with one road fewer than
# places, a round leaves a place that one does not come to.
def check_joined(many, roads):
    reached = {0: True}
    waiting = [0]
    while waiting:
        place = waiting.pop()
        for end in other_ends(roads, place):
            if end not in reached:
                reached[end] = True
                waiting.append(end)
    if len(reached) != many:
        raise BadWeb("one does not come from each place to each other one")


def other_ends(roads, place):
    ends = []
    for road in roads:
        if road[0] == place:
            ends.append(road[1])
        if road[1] == place:
            ends.append(road[0])
    return ends
