"""Ways through a web, their prices, and the web as seen from a place."""

from pebbletoll.webs import check_place, neighbours, toll


def way(web, a, b):
    check_place(web, a)
    nearer = ahead(web, b)
    places = [a]
    while places[-1] != b:
        places.append(nearer[places[-1]])
    return places


def price(web, a, b):
    places = way(web, a, b)
    product = 1
    for start, end in zip(places, places[1:]):
        product = product * toll(web, start, end)
    return product


def ahead(web, r):
    check_place(web, r)
    nearer = [None] * web.many
    waiting = [r]
    while waiting:
        place = waiting.pop()
        front = nearer[place]
        for kid in kids(web, place, front):
            nearer[kid] = place
            waiting.append(kid)
    return nearer


def down(web, r):
    nearer = ahead(web, r)
    places = []
    waiting = [r]
    while waiting:
        place = waiting.pop()
        places.append(place)
        # What is put last is taken first, so the least kid goes last.
        for kid in reversed(kids(web, place, nearer[place])):
            waiting.append(kid)
    return places


def kids(web, place, front):
    return [near for near in neighbours(web, place) if near != front]


# Each place but r with the one ahead of it, those beneath a place before it.
def inward(web, r):
    nearer = ahead(web, r)
    return [(place, nearer[place]) for place in reversed(down(web, r)) if place != r]


def beyond(web, a, b):
    # Asked for its refusals alone: NoPlace, then NoRoad.
    toll(web, a, b)
    nearer = ahead(web, a)
    beneath = {b: True}
    # Each place comes behind the one ahead of it, so one pass is enough.
    for place in down(web, a):
        if nearer[place] in beneath:
            beneath[place] = True
    return sorted(beneath)
