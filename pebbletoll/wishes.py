"""Wishes: pebbles wanted at all places at once."""

from pebbletoll.errors import BadStep, BadWish
from pebbletoll.layings import covers, is_filled, laying_of
from pebbletoll.steps import walked
from pebbletoll.ways import inward
from pebbletoll.webs import toll


def wish_of(web, numbers):
    if not is_filled(web, numbers):
        raise BadWish("a wish has a number from 0 on for each place")
    return tuple(numbers)


def standings(web, laying, wish, r):
    has = laying_of(web, laying)
    wanted = wish_of(web, wish)
    over = [has[place] - wanted[place] for place in range(web.many)]
    for place, front in inward(web, r):
        over[front] += handed_on(web, over[place], place, front)
    return over


def handed_on(web, over, place, front):
    if over >= 0:
        return over // toll(web, place, front)
    return over * toll(web, front, place)


def standing(web, laying, wish, r):
    return standings(web, laying, wish, r)[r]


# Whether a wish is met is the same seen from each place, and 0 is always one.
def is_met(web, laying, wish):
    return standing(web, laying, wish, 0) >= 0


def meeting(web, laying, wish):
    if is_met(web, laying, wish):
        return ("steps", steps_in(web, laying, wish, 0) + steps_out(web, laying, wish, 0))
    return ("lack", lacks_of(web, laying, wish))


# All steps towards r go first, the farthest first: what is left over beneath a
# place is at hand there by then, and what its kids lack is not yet taken.
def steps_in(web, laying, wish, r):
    over = standings(web, laying, wish, r)
    steps = []
    for place, front in inward(web, r):
        times = handed_on(web, over[place], place, front)
        if times > 0:
            steps.append((place, front, times))
    return steps


def steps_out(web, laying, wish, r):
    over = standings(web, laying, wish, r)
    steps = []
    for place, front in reversed(inward(web, r)):
        if over[place] < 0:
            steps.append((front, place, -over[place]))
    return steps


def lacks_of(web, laying, wish):
    return tuple([-standing(web, laying, wish, r) for r in range(web.many)])


def judged(web, laying, wish, answer):
    # Asked for both forms of an answer, since it refuses what is to be refused.
    met = is_met(web, laying, wish)
    if answer[0] == "steps":
        return lead_to(web, laying, wish, answer[1])
    return not met and tuple(answer[1]) == lacks_of(web, laying, wish)


def lead_to(web, laying, wish, steps):
    try:
        left = walked(web, laying, steps)
    except BadStep:
        return False
    return covers(left, wish)
