"""Webs for the tests, and what the document says of them, told the slow way."""

from itertools import product

from pebbletoll.webs import Web

HUGE = 10 ** 49

# 0 - 1 - 2 - 3
ROW = (4, [(0, 1, 2, 3), (2, 1, 5, 7), (2, 3, 11, 13)])
# 2 in the middle
STAR = (5, [(2, 0, 2, 3), (4, 2, 5, 7), (2, 1, 11, 13), (3, 2, 17, 19)])
#   3
#   |
# 5-0-6-1-4
#     |
#     2
BRANCHED = (7, [(6, 0, 2, 3), (0, 5, 4, 5), (3, 0, 6, 7), (1, 6, 8, 9), (4, 1, 10, 11), (6, 2, 12, 13)])
ALONE = (1, [])
PAIR = (2, [(1, 0, 2, 10 ** 6)])
LONG_ROW = (24, [(k + 1, k, 10 ** 6 - k, 2 + k) for k in range(23)])
BIG_STAR = (24, [(k, 23, 2 + k, 3 + 2 * k) for k in range(23)])
# each place k from 1 on hangs at k // 2, with its number turned round
BIG_BRANCHED = (24, [(23 - k, 23 - k // 2, 2 + k, 50 - k) for k in range(1, 24)])

NAMED = (ROW, STAR, BRANCHED, ALONE, PAIR, LONG_ROW, BIG_STAR, BIG_BRANCHED)


def ends_of_code(many, code):
    """The two ends of each road of the web that a Pruefer code names."""
    degree = [1 + code.count(place) for place in range(many)]
    ends = []
    for place in code:
        leaf = degree.index(1)
        ends.append((leaf, place))
        degree[leaf] -= 1
        degree[place] -= 1
    left = [place for place in range(many) if degree[place] == 1]
    return ends + [(left[0], left[1])]


def small_webs():
    """Every web of up to five places, all tolls of it different."""
    yield ALONE
    for many in range(2, 6):
        for code in product(range(many), repeat=many - 2):
            roads = []
            for k, (one, other) in enumerate(ends_of_code(many, code)):
                turned = (k + sum(code)) % 2 == 1
                ends = (other, one) if turned else (one, other)
                roads.append((*ends, 2 + 3 * k, 4 + 3 * k))
            yield many, roads


def all_webs():
    yield from NAMED
    yield from small_webs()


def made(sample):
    many, roads = sample
    return Web(many, roads)


def tolls(sample):
    """The toll for each ordered pair of neighbours."""
    found = {}
    for one, other, there, back in sample[1]:
        found[(one, other)] = there
        found[(other, one)] = back
    return found


def slow_way(sample, a, b, passed=()):
    """The way from a to b by trying each road; None where there is none."""
    if a == b:
        return [a]
    for start, end in tolls(sample):
        if start == a and end not in passed:
            rest = slow_way(sample, end, b, passed + (a,))
            if rest is not None:
                return [a] + rest
    return None


def slow_price(sample, a, b):
    found = 1
    places = slow_way(sample, a, b)
    for k in range(len(places) - 1):
        found *= tolls(sample)[(places[k], places[k + 1])]
    return found


def slow_ahead(sample, r):
    return [None if v == r else slow_way(sample, v, r)[1] for v in range(sample[0])]


def slow_beneath(sample, r, v):
    return [u for u in range(sample[0]) if v in slow_way(sample, u, r)]


def slow_down(sample, r):
    fronts = slow_ahead(sample, r)

    def below(v):
        places = [v]
        for kid in range(sample[0]):
            if fronts[kid] == v:
                places += below(kid)
        return places

    return below(r)
