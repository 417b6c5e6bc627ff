"""Layings: how many pebbles lie at each place."""

from pebbletoll.errors import BadLaying
from pebbletoll.webs import check_place


def laying_of(web, numbers):
    if not is_filled(web, numbers):
        raise BadLaying("a laying has a number from 0 on for each place")
    return tuple(numbers)


# Layings and wishes are alike in this, and refused with different errors.
def is_filled(web, numbers):
    return len(numbers) == web.many and all([number >= 0 for number in numbers])


def total(numbers):
    return sum(numbers)


def pile(web, place, many):
    return put(web, [0] * web.many, place, many)


def put(web, laying, place, many):
    counts = list(laying_of(web, laying))
    check_place(web, place)
    counts[place] += many
    return laying_of(web, counts)


def covers(laying, numbers):
    return all([has >= least for has, least in zip(laying, numbers)])
