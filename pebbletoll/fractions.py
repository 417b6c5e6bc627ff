"""Fractions: pairs (top, bottom) without a common divisor above 1, the bottom from 1 on."""


def fraction(top, bottom):
    common = common_divisor(top, bottom)
    # A divisor below 0 hands the sign of the bottom over to the top.
    if bottom < 0:
        common = -common
    return (top // common, bottom // common)


def common_divisor(one, two):
    while two != 0:
        rest = one % two
        one = two
        two = rest
    return abs(one)


def plus(one, two):
    return sum_up([one, two])


def minus(one, two):
    return plus(one, (-two[0], two[1]))


def times(one, two):
    return fraction(one[0] * two[0], one[1] * two[1])


def less(one, two):
    return one[0] * two[1] < two[0] * one[1]


# All are brought to one bottom, so that the long numbers of the sum are
# divided but once, at the end.
def sum_up(some):
    bottom = 1
    for part in some:
        bottom = bottom * (part[1] // common_divisor(bottom, part[1]))
    return fraction(sum([part[0] * (bottom // part[1]) for part in some]), bottom)
