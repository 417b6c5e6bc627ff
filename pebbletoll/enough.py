"""Always enough for one place: the least such number, weights that show it, and a worst laying."""

from pebbletoll.errors import BadWish
from pebbletoll.ways import inward
from pebbletoll.webs import check_place, toll


def weights_stand(web, r, weights):
    pairs = inward(web, r)
    if len(weights) != web.many or any([weight < 1 for weight in weights]):
        return False
    return all([weights[front] >= borne(web, weights, place, front) for place, front in pairs])


def borne(web, weights, place, front):
    return weights[place] * toll(web, place, front)


def weighed(weights, laying):
    return sum([weight * many for weight, many in zip(weights, laying)])


def bound_by(web, r, wanted, weights):
    check_wanted(web, r, wanted)
    bound = weights[r] * (wanted - 1)
    for place, front in inward(web, r):
        bound += weights[place] * (toll(web, place, front) - 1)
    return bound


def check_wanted(web, r, wanted):
    check_place(web, r)
    if wanted < 1:
        raise BadWish("at least one pebble is to be wanted")


def least_weights(web, r):
    weights = [1] * web.many
    for place, front in inward(web, r):
        weights[front] = max(weights[front], borne(web, weights, place, front))
    return weights


def enough(web, r, wanted):
    return bound_by(web, r, wanted, least_weights(web, r)) + 1


# Each bearer takes all that its place ahead may gather, and each other kid
# just falls short of giving one pebble.
def worst(web, r, wanted):
    check_wanted(web, r, wanted)
    chosen = bearers(web, r)
    counts = [0] * web.many
    counts[r] = wanted - 1
    for place, front in reversed(inward(web, r)):
        given = counts[front] if chosen[front] == place else 0
        counts[place] = (given + 1) * toll(web, place, front) - 1
    return tuple([counts[place] if chosen[place] is None else 0 for place in range(web.many)])


# For each place its greatest heavy kid, None where it has no kids. Of the heavy
# kids the greatest one makes the worst laying told the one with the number 0.
def bearers(web, r):
    weights = least_weights(web, r)
    chosen = [None] * web.many
    for place, front in reversed(inward(web, r)):
        if is_heavy(web, weights, place, front):
            chosen[front] = place
    return chosen


def is_heavy(web, weights, place, front):
    return borne(web, weights, place, front) == weights[front]


def hardest(web, wanted):
    numbers = [enough(web, r, wanted) for r in range(web.many)]
    greatest = max(numbers)
    return (greatest, numbers.index(greatest))
