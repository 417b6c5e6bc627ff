"""Worst layings: which there are, how many, and each by its number."""

from pebbletoll.bringing import gathered, most
from pebbletoll.enough import bearers, check_wanted, enough, is_heavy, least_weights
from pebbletoll.errors import NoNumber, TooMany
from pebbletoll.layings import laying_of, total
from pebbletoll.polynomials import differences, first_values, parted, value_at
from pebbletoll.ways import ahead, down, kids
from pebbletoll.webs import toll

MOST_PEBBLES = 1000000000000


def is_worst(web, r, wanted, laying):
    least = enough(web, r, wanted)
    counts = laying_of(web, laying)
    return total(counts) == least - 1 and most(web, counts, r) < wanted


def worst_many(web, r, wanted):
    check_wanted(web, r, wanted)
    return ways_of(Tally(web, r), r, wanted - 1)


def worst_at(web, r, wanted, number):
    check_told(web, r, wanted)
    tally = Tally(web, r)
    if not 0 <= number < ways_of(tally, r, wanted - 1):
        raise NoNumber("no worst laying has this number")
    return laying_at(tally, wanted - 1, number)


def worst_number(web, r, wanted, laying):
    check_told(web, r, wanted)
    if not is_worst(web, r, wanted, laying):
        raise NoNumber("this is no worst laying")
    return number_of(Tally(web, r), gathered(web, laying, r))


def check_told(web, r, wanted):
    if enough(web, r, wanted) > MOST_PEBBLES:
        raise TooMany("worst layings of so many pebbles are not told by number")


# What is known of the web as seen from r. The rests of a place are polynomials:
# in how many ways its kids give so many pebbles together, all of them, those
# from the second one on, from the third one on, and so on, and none at last.
class Tally:
    def __init__(self, web, r):
        self.web = web
        self.down = down(web, r)
        self.weights = least_weights(web, r)
        self.bearers = bearers(web, r)
        self.kids = [kids(web, place, front) for place, front in enumerate(ahead(web, r))]
        self.rests = [None] * web.many
        for place in reversed(self.down):
            self.rests[place] = rests_of(self, place)


# Each of them is of a lower degree than the web has places, so as many values
# as places tell it for any number.
def rests_of(tally, place):
    many = tally.web.many
    rests = [[1]]
    for kid in reversed(tally.kids[place]):
        ways = [ways_given(tally, place, kid, given) for given in range(many)]
        if is_free(tally, place, kid):
            rests.append(differences(parted(ways, first_values(rests[-1], many))))
        elif kid == tally.bearers[place]:
            rests.append(differences([count * rests[-1][0] for count in ways]))
        else:
            rests.append([ways[0] * difference for difference in rests[-1]])
    return list(reversed(rests))


# The bearer, the last heavy kid, must give what the heavy kids before it leave.
def is_free(tally, place, kid):
    return is_heavy(tally.web, tally.weights, kid, place) and kid != tally.bearers[place]


def ways_of(tally, place, held):
    return value_at(tally.rests[place][0], held)


def ways_given(tally, place, kid, given):
    return ways_of(tally, kid, held_for(tally, place, kid, given))


def held_for(tally, place, kid, given):
    return (given + 1) * toll(tally.web, kid, place) - 1


def laying_at(tally, held, number):
    counts = [0] * tally.web.many
    waiting = {tally.down[0]: (held, number)}
    for place in tally.down:
        own = waiting[place]
        if not tally.kids[place]:
            counts[place] = own[0]
        waiting.update(handed_down(tally, place, own[0], own[1]))
    return tuple(counts)


# For each kid what it has gathered, and the number of the way in which that
# lies beneath it.
def handed_down(tally, place, held, number):
    found = {}
    left = held
    for at, kid in enumerate(tally.kids[place]):
        given = given_by(tally, place, at, left, number)
        number -= ways_before(tally, place, at, left, given)
        left -= given
        ways_behind = value_at(tally.rests[place][at + 1], left)
        found[kid] = (held_for(tally, place, kid, given), number // ways_behind)
        number = number % ways_behind
    return found


def given_by(tally, place, at, left, number):
    kid = tally.kids[place][at]
    if kid == tally.bearers[place]:
        return left
    if not is_free(tally, place, kid):
        return 0
    return last_within(course(tally, place, at, left), left, number)


# The greatest number up to `top` before which no more than `number` ways go.
def last_within(before, top, number):
    low = 0
    high = top
    while low < high:
        middle = (low + high + 1) // 2
        if value_at(before, middle) <= number:
            low = middle
        else:
            high = middle - 1
    return low


def ways_before(tally, place, at, left, given):
    if not is_free(tally, place, tally.kids[place][at]):
        return 0
    return value_at(course(tally, place, at, left), given)


# How many ways go before those in which the kid gives 0, 1, 2 and so on, of
# all in which the kids from this one on give together what is left.
def course(tally, place, at, left):
    kid = tally.kids[place][at]
    before = [0]
    for given in range(tally.web.many - 1):
        ways_behind = value_at(tally.rests[place][at + 1], left - given)
        before.append(before[-1] + ways_given(tally, place, kid, given) * ways_behind)
    return differences(before)


def number_of(tally, held):
    numbers = [0] * tally.web.many
    for place in reversed(tally.down):
        numbers[place] = number_beneath(tally, place, held, numbers)
    return numbers[tally.down[0]]


def number_beneath(tally, place, held, numbers):
    number = 0
    left = held[place]
    for at, kid in enumerate(tally.kids[place]):
        given = held[kid] // toll(tally.web, kid, place)
        number += ways_before(tally, place, at, left, given)
        left -= given
        number += numbers[kid] * value_at(tally.rests[place][at + 1], left)
    return number
