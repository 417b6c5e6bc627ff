"""Webs for the tests, and what the document says of them, told the slow way."""

from itertools import product
from random import Random

from pebbletoll.webs import Web

HUGE = 10 ** 49

# 0 - 1 - 2 - 3
ROW = (4, [(0, 1, 2, 3), (2, 1, 5, 7), (2, 3, 11, 13)])
# 2 in the middle
STAR = (5, [(2, 0, 2, 3), (4, 2, 5, 7), (2, 1, 11, 13), (3, 2, 17, 19)])
#   3
#   |
# 5-0-6-1-4
#     |
#     2
BRANCHED = (7, [(6, 0, 2, 3), (0, 5, 4, 5), (3, 0, 6, 7), (1, 6, 8, 9), (4, 1, 10, 11), (6, 2, 12, 13)])
ALONE = (1, [])
PAIR = (2, [(1, 0, 2, 10 ** 6)])
LONG_ROW = (24, [(k + 1, k, 10 ** 6 - k, 2 + k) for k in range(23)])
BIG_STAR = (24, [(k, 23, 2 + k, 3 + 2 * k) for k in range(23)])
# each place k from 1 on hangs at k // 2, with its number turned round
BIG_BRANCHED = (24, [(23 - k, 23 - k // 2, 2 + k, 50 - k) for k in range(1, 24)])

NAMED = (ROW, STAR, BRANCHED, ALONE, PAIR, LONG_ROW, BIG_STAR, BIG_BRANCHED)


def ends_of_code(many, code):
    """The two ends of each road of the web that a Pruefer code names."""
    degree = [1 + code.count(place) for place in range(many)]
    ends = []
    for place in code:
        leaf = degree.index(1)
        ends.append((leaf, place))
        degree[leaf] -= 1
        degree[place] -= 1
    left = [place for place in range(many) if degree[place] == 1]
    return ends + [(left[0], left[1])]


def small_webs():
    """Every web of up to five places, all tolls of it different."""
    yield ALONE
    for many in range(2, 6):
        for code in product(range(many), repeat=many - 2):
            roads = []
            for k, (one, other) in enumerate(ends_of_code(many, code)):
                turned = (k + sum(code)) % 2 == 1
                ends = (other, one) if turned else (one, other)
                roads.append((*ends, 2 + 3 * k, 4 + 3 * k))
            yield many, roads


def all_webs():
    yield from NAMED
    yield from small_webs()


def made(sample):
    many, roads = sample
    return Web(many, roads)


def tolls(sample):
    """The toll for each ordered pair of neighbours."""
    found = {}
    for one, other, there, back in sample[1]:
        found[(one, other)] = there
        found[(other, one)] = back
    return found


def slow_way(sample, a, b, passed=()):
    """The way from a to b by trying each road; None where there is none."""
    if a == b:
        return [a]
    for start, end in tolls(sample):
        if start == a and end not in passed:
            rest = slow_way(sample, end, b, passed + (a,))
            if rest is not None:
                return [a] + rest
    return None


def slow_price(sample, a, b):
    found = 1
    places = slow_way(sample, a, b)
    for k in range(len(places) - 1):
        found *= tolls(sample)[(places[k], places[k + 1])]
    return found


def slow_ahead(sample, r):
    return [None if v == r else slow_way(sample, v, r)[1] for v in range(sample[0])]


def slow_beneath(sample, r, v):
    return [u for u in range(sample[0]) if v in slow_way(sample, u, r)]


def slow_down(sample, r):
    fronts = slow_ahead(sample, r)

    def below(v):
        places = [v]
        for kid in range(sample[0]):
            if fronts[kid] == v:
                places += below(kid)
        return places

    return below(r)


CHEAP_TOLLS = (2, 3, 3, 2, 2, 2)


def cheap_webs(most_places):
    """Every web of up to so many places, of low tolls, on which all steps can be tried."""
    yield ALONE
    for many in range(2, most_places + 1):
        for turn, code in enumerate(product(range(many), repeat=many - 2)):
            roads = []
            for k, (one, other) in enumerate(ends_of_code(many, code)):
                there = CHEAP_TOLLS[(turn + 2 * k) % 6]
                back = CHEAP_TOLLS[(turn + 2 * k + 1) % 6]
                roads.append((one, other, there, back))
            yield many, roads


def small_lists(many, greatest):
    return list(product(range(greatest + 1), repeat=many))


def one_step_on(sample, laying):
    """Each laying behind one step with times 1."""
    for (a, b), number in tolls(sample).items():
        if laying[a] >= number:
            counts = list(laying)
            counts[a] -= number
            counts[b] += 1
            yield tuple(counts)


def slow_reached(sample, laying):
    """Every laying to which any steps lead: a step with more times is so many with times 1."""
    reached = {tuple(laying)}
    waiting = [tuple(laying)]
    while waiting:
        for found in one_step_on(sample, waiting.pop()):
            if found not in reached:
                reached.add(found)
                waiting.append(found)
    return reached


def slow_gathered(sample, laying, r):
    fronts = slow_ahead(sample, r)
    known = tolls(sample)

    def below(v):
        kids = [kid for kid in range(sample[0]) if fronts[kid] == v]
        return laying[v] + sum(below(kid) // known[(kid, v)] for kid in kids)

    return [below(v) for v in range(sample[0])]


def slow_standings(sample, laying, wish, r):
    fronts = slow_ahead(sample, r)
    known = tolls(sample)

    def below(v):
        found = laying[v] - wish[v]
        for kid in [place for place in range(sample[0]) if fronts[place] == v]:
            own = below(kid)
            found += own // known[(kid, v)] if own >= 0 else own * known[(v, kid)]
        return found

    return [below(v) for v in range(sample[0])]


def mixed_lists(many, greatest, how_many):
    """Lists of numbers from 0 to the greatest, a third of them 0: always the same ones."""
    source = Random(7)
    for turn in range(how_many):
        yield [source.randint(0, greatest) * (source.randrange(3) > 0) for place in range(many)]


def wrong_lists(many):
    """Lists that are neither a laying nor a wish: too short, too long, one below 0."""
    right = [3] * many
    yield right[1:]
    yield right + [0]
    yield right + right
    yield []
    for place in range(many):
        for number in (-1, -HUGE, -10 ** 399):
            yield right[:place] + [number] + right[place + 1:]
    yield [-1] * (many + 1)


def wrong_places(many):
    return (-1, -many, many, many + 1, HUGE, -HUGE, 10 ** 5000)
