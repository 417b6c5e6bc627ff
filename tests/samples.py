"""Webs for the tests, and what the document says of them, told the slow way."""

from functools import cache
from itertools import product
from random import Random

from pebbletoll.webs import Web

HUGE = 10 ** 49

# 0 - 1 - 2 - 3
ROW = (4, [(0, 1, 2, 3), (2, 1, 5, 7), (2, 3, 11, 13)])
# 2 in the middle
STAR = (5, [(2, 0, 2, 3), (4, 2, 5, 7), (2, 1, 11, 13), (3, 2, 17, 19)])
#   3
#   |
# 5-0-6-1-4
#     |
#     2
BRANCHED = (7, [(6, 0, 2, 3), (0, 5, 4, 5), (3, 0, 6, 7), (1, 6, 8, 9), (4, 1, 10, 11), (6, 2, 12, 13)])
ALONE = (1, [])
PAIR = (2, [(1, 0, 2, 10 ** 6)])
LONG_ROW = (24, [(k + 1, k, 10 ** 6 - k, 2 + k) for k in range(23)])
BIG_STAR = (24, [(k, 23, 2 + k, 3 + 2 * k) for k in range(23)])
# each place k from 1 on hangs at k // 2, with its number turned round
BIG_BRANCHED = (24, [(23 - k, 23 - k // 2, 2 + k, 50 - k) for k in range(1, 24)])

NAMED = (ROW, STAR, BRANCHED, ALONE, PAIR, LONG_ROW, BIG_STAR, BIG_BRANCHED)


def ends_of_code(many, code):
    """The two ends of each road of the web that a Pruefer code names."""
    degree = [1 + code.count(place) for place in range(many)]
    ends = []
    for place in code:
        leaf = degree.index(1)
        ends.append((leaf, place))
        degree[leaf] -= 1
        degree[place] -= 1
    left = [place for place in range(many) if degree[place] == 1]
    return ends + [(left[0], left[1])]


def small_webs():
    """Every web of up to five places, all tolls of it different."""
    yield ALONE
    for many in range(2, 6):
        for code in product(range(many), repeat=many - 2):
            roads = []
            for k, (one, other) in enumerate(ends_of_code(many, code)):
                turned = (k + sum(code)) % 2 == 1
                ends = (other, one) if turned else (one, other)
                roads.append((*ends, 2 + 3 * k, 4 + 3 * k))
            yield many, roads


def all_webs():
    yield from NAMED
    yield from small_webs()


def made(sample):
    many, roads = sample
    return Web(many, roads)


def tolls(sample):
    """The toll for each ordered pair of neighbours."""
    found = {}
    for one, other, there, back in sample[1]:
        found[(one, other)] = there
        found[(other, one)] = back
    return found


def slow_way(sample, a, b):
    return list(way_found(sample[0], tuple(sample[1]), a, b))


@cache
def way_found(many, roads, a, b):
    """The way from a to b by trying each road."""
    known = tolls((many, roads))

    def rest_of(start, passed):
        if start == b:
            return (b,)
        for one, other in known:
            if one == start and other not in passed:
                rest = rest_of(other, passed + (start,))
                if rest is not None:
                    return (start,) + rest
        return None

    return rest_of(a, ())


def slow_price(sample, a, b):
    found = 1
    places = slow_way(sample, a, b)
    for k in range(len(places) - 1):
        found *= tolls(sample)[(places[k], places[k + 1])]
    return found


def slow_ahead(sample, r):
    return [None if v == r else slow_way(sample, v, r)[1] for v in range(sample[0])]


def slow_beneath(sample, r, v):
    return [u for u in range(sample[0]) if v in slow_way(sample, u, r)]


def slow_down(sample, r):
    fronts = slow_ahead(sample, r)

    def below(v):
        places = [v]
        for kid in range(sample[0]):
            if fronts[kid] == v:
                places += below(kid)
        return places

    return below(r)


CHEAP_TOLLS = (2, 3, 3, 2, 2, 2)


def cheap_webs(most_places):
    """Every web of up to so many places, of low tolls, on which all steps can be tried."""
    yield ALONE
    for many in range(2, most_places + 1):
        for turn, code in enumerate(product(range(many), repeat=many - 2)):
            roads = []
            for k, (one, other) in enumerate(ends_of_code(many, code)):
                there = CHEAP_TOLLS[(turn + 2 * k) % 6]
                back = CHEAP_TOLLS[(turn + 2 * k + 1) % 6]
                roads.append((one, other, there, back))
            yield many, roads


def small_lists(many, greatest):
    return list(product(range(greatest + 1), repeat=many))


def one_step_on(sample, laying):
    """Each laying behind one step with times 1."""
    for (a, b), number in tolls(sample).items():
        if laying[a] >= number:
            counts = list(laying)
            counts[a] -= number
            counts[b] += 1
            yield tuple(counts)


def slow_reached(sample, laying):
    """Every laying to which any steps lead: a step with more times is so many with times 1."""
    reached = {tuple(laying)}
    waiting = [tuple(laying)]
    while waiting:
        for found in one_step_on(sample, waiting.pop()):
            if found not in reached:
                reached.add(found)
                waiting.append(found)
    return reached


def slow_gathered(sample, laying, r):
    fronts = slow_ahead(sample, r)
    known = tolls(sample)

    def below(v):
        kids = [kid for kid in range(sample[0]) if fronts[kid] == v]
        return laying[v] + sum(below(kid) // known[(kid, v)] for kid in kids)

    return [below(v) for v in range(sample[0])]


def slow_standings(sample, laying, wish, r):
    fronts = slow_ahead(sample, r)
    known = tolls(sample)

    def below(v):
        found = laying[v] - wish[v]
        for kid in [place for place in range(sample[0]) if fronts[place] == v]:
            own = below(kid)
            found += own // known[(kid, v)] if own >= 0 else own * known[(v, kid)]
        return found

    return [below(v) for v in range(sample[0])]


def mixed_lists(many, greatest, how_many):
    """Lists of numbers from 0 to the greatest, a third of them 0: always the same ones."""
    source = Random(7)
    for turn in range(how_many):
        yield [source.randint(0, greatest) * (source.randrange(3) > 0) for place in range(many)]


def wrong_lists(many):
    """Lists that are neither a laying nor a wish: too short, too long, one below 0."""
    right = [3] * many
    yield right[1:]
    yield right + [0]
    yield right + right
    yield []
    for place in range(many):
        for number in (-1, -HUGE, -10 ** 399):
            yield right[:place] + [number] + right[place + 1:]
    yield [-1] * (many + 1)


def wrong_places(many):
    return (-1, -many, many, many + 1, HUGE, -HUGE, 10 ** 5000)


# Webs on which, seen from some places, a place has several heavy kids.
EVEN_ROW = (3, [(1, 0, 2, 2), (0, 2, 2, 2)])
EVEN_STAR = (4, [(0, 1, 2, 2), (2, 0, 2, 2), (0, 3, 2, 2)])
#  3   4
#   \ /
#    1 - 0 - 2
#            |
#            5
EVEN_BRANCHED = (6, [(0, 1, 3, 2), (0, 2, 2, 2), (1, 3, 2, 2), (4, 1, 2, 3), (2, 5, 3, 2)])
#   6   4
#   |   |
# 1-3-5-0-2
EVEN_TWICE = (7, [(3, 1, 2, 3), (3, 5, 2, 2), (6, 3, 3, 2), (5, 0, 2, 2), (0, 2, 5, 12), (0, 4, 5, 3)])
BIG_EVEN_STAR = (24, [(k, 23, 7, 5) for k in range(23)])
# each place k from 1 on hangs at (k - 1) // 2; most kids are heavy, wherever one sees it from
BIG_EVEN = (24, [(k, (k - 1) // 2, 3 if k < 15 else 2, 4) for k in range(1, 24)])

EVEN = (EVEN_ROW, EVEN_STAR, EVEN_BRANCHED, EVEN_TWICE, BIG_EVEN_STAR, BIG_EVEN)


def parts(pebbles, many):
    """Each laying of just so many pebbles at so many places."""
    if many == 1:
        yield (pebbles,)
        return
    for first in range(pebbles + 1):
        for rest in parts(pebbles - first, many - 1):
            yield (first,) + rest


def climbs(sample, r):
    """Each place but r with the one ahead, the toll to it and the toll back, the farthest first."""
    fronts = slow_ahead(sample, r)
    known = tolls(sample)
    places = sorted(range(sample[0]), key=lambda v: -len(slow_way(sample, v, r)))
    return [(v, fronts[v], known[(v, fronts[v])], known[(fronts[v], v)]) for v in places if v != r]


def most_finder(sample, r):
    """A quick way to the most at r, for very many layings one after the other."""
    roads = climbs(sample, r)

    def find(laying):
        counts = list(laying)
        for place, front, up, back in roads:
            counts[front] += counts[place] // up
        return counts[r]

    return find


def met_finder(sample, wish, r):
    """A quick way to whether a laying meets the wish, for very many layings."""
    roads = climbs(sample, r)

    def find(laying):
        over = [has - wants for has, wants in zip(laying, wish)]
        for place, front, up, back in roads:
            over[front] += over[place] // up if over[place] >= 0 else over[place] * back
        return over[r] >= 0

    return find


def slow_weights(sample, r):
    """The greatest price of a way up to each place from one beneath it."""
    return [max(slow_price(sample, u, v) for u in slow_beneath(sample, r, v)) for v in range(sample[0])]


def slow_kids(sample, r, v):
    fronts = slow_ahead(sample, r)
    return [kid for kid in range(sample[0]) if fronts[kid] == v]


def slow_needs(sample, wish, r):
    needs = list(wish)
    for place, front, up, back in climbs(sample, r):
        needs[front] += needs[place] * back
    return needs


def slow_loads(sample, wish, r, v, top):
    """For each standing up to the top the greatest load beneath v that has it, all of them tried."""
    known = tolls(sample)
    needs = slow_needs(sample, wish, r)
    room = needs[v] + top
    loads = {0: 0}
    for kid in slow_kids(sample, r, v):
        up, back = known[(kid, v)], known[(v, kid)]
        given = room - needs[kid] * back
        kid_top = up * (given + 1) - 1 if given >= 0 else given // back
        taken = {}
        for over, load in slow_loads(sample, wish, r, kid, kid_top).items():
            rise = needs[kid] * back + (over // up if over >= 0 else over * back)
            if rise <= room:
                taken[rise] = max(load, taken.get(rise, 0))
        both = {}
        for one, load in loads.items():
            for other, more in taken.items():
                if one + other <= room:
                    both[one + other] = max(load + more, both.get(one + other, 0))
        loads = both
    best = {}
    for rise in range(room + 1):
        best[rise - needs[v]] = max(load + rise - used for used, load in loads.items() if used <= rise)
    return best


def slow_worsts(sample, r, wanted):
    """The gathered numbers of each worst laying, in the order of the places down from r, rising."""
    known = tolls(sample)
    weights = slow_weights(sample, r)
    kids = [slow_kids(sample, r, v) for v in range(sample[0])]

    @cache
    def below(v, held):
        """What the places beneath v may have gathered where v has so many, in the order down."""
        if not kids[v]:
            return [(held,)]
        found = [((held,), held)]
        for kid in kids[v]:
            up = known[(kid, v)]
            longer = []
            for row, left in found:
                for given in range(left + 1 if weights[kid] * up == weights[v] else 1):
                    longer += [(row + more, left - given) for more in below(kid, up * (given + 1) - 1)]
            found = longer
        return [row for row, left in found if left == 0]

    return sorted(below(r, wanted - 1))


def laid(sample, r, row):
    """The laying, pebbles at places without kids alone, with these gathered numbers down from r."""
    places = slow_down(sample, r)
    counts = [0] * sample[0]
    for place, number in zip(places, row):
        if not slow_kids(sample, r, place):
            counts[place] = number
    return tuple(counts)


def slow_failing_many(sample, wish, r):
    """The greatest number of pebbles that does not meet the wish, by the words of 7.3, seen from r."""
    known = tolls(sample)
    needs = slow_needs(sample, wish, r)
    fronts = slow_ahead(sample, r)
    kids = [slow_kids(sample, r, v) for v in range(sample[0])]

    @cache
    def idle(v):
        if needs[v] > 0:
            return sum(idle(kid) for kid in kids[v])
        return greatest(v, known[(v, fronts[v])] - 1)

    @cache
    def greatest(v, y):
        found = [needs[v] + y + sum(idle(kid) for kid in kids[v])]
        for kid in kids[v]:
            z = y + needs[v] - known[(v, kid)] * needs[kid]
            others = sum(idle(other) for other in kids[v] if other != kid)
            found.append(greatest(kid, known[(kid, v)] * (z + 1) - 1) + others)
        return max(found)

    return greatest(r, -1)


# What is no number, as a word of a row.
NO_NUMBERS = (
    "00", "01", "007", "0" * 60, "+1", "-1", "-0", "1.", "1.0", "1e3", "1_000", "1,000", "0x1", "x", "a1", "1a", ".",
    "/", "1" + "0" * 60, "9" * 61, "1" * 5000, "one", "~", "!", "'1'", "(1)", "1\t", "\t",
)
