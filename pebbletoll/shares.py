"""Fair shares: a fraction for each place, by which each place is worth just as much."""

from pebbletoll.fractions import fraction, less, minus, sum_up
from pebbletoll.ways import inward
from pebbletoll.webs import neighbours, toll

NOUGHT = (0, 1)
ONE = (1, 1)


def worth(web, shares, v):
    return divided_up(shares, prices_to(web, v))


def yields(web, shares, u):
    return divided_up(shares, prices_from(web, u))


def divided_up(shares, prices):
    return sum_up([fraction(share[0], share[1] * cost) for share, cost in zip(shares, prices)])


# The prices of all ways to a place, or from it, are found in one pass, the
# nearest first: to ask for each way by itself takes far longer.
def prices_to(web, v):
    prices = [1] * web.many
    for place, front in reversed(inward(web, v)):
        prices[place] = prices[front] * toll(web, place, front)
    return prices


def prices_from(web, u):
    prices = [1] * web.many
    for place, front in reversed(inward(web, u)):
        prices[place] = prices[front] * toll(web, front, place)
    return prices


def even_shares(web):
    return [even_share(web, place) for place in range(web.many)]


def even_share(web, place):
    near = neighbours(web, place)
    return minus(ONE, sum_up([road_part(toll(web, place, other), toll(web, other, place)) for other in near]))


def second_shares(web):
    return [second_share(web, place) for place in range(web.many)]


def second_share(web, place):
    near = neighbours(web, place)
    return minus(ONE, sum_up([road_part(toll(web, other, place), toll(web, place, other)) for other in near]))


def road_part(one, other):
    return fraction(one - 1, one * other - 1)


def shows_fairest(web, shares, second):
    if not are_sound(web, shares) or not are_sound(web, second):
        return False
    if any([less(worth(web, shares, v), ONE) for v in range(web.many)]):
        return False
    if any([less(ONE, yields(web, second, u)) for u in range(web.many)]):
        return False
    return sum_up(shares) == sum_up(second)


def are_sound(web, shares):
    return len(shares) == web.many and not any([is_below(share) for share in shares])


def is_below(share):
    return less(share, NOUGHT)


def fairest(web):
    shares = even_shares(web)
    second = second_shares(web)
    low = [place for place in range(web.many) if is_below(shares[place]) or is_below(second[place])]
    if low:
        return ("below", low)
    return ("fairest", shares, second)
