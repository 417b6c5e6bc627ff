"""9.1: fractions."""

import unittest
from fractions import Fraction
from math import gcd
from random import Random

from pebbletoll.fractions import fraction, less, minus, plus, sum_up, times

BIG = 10 ** 400 - 1
SMALL = [(top, bottom) for top in range(-12, 13) for bottom in range(-12, 13) if bottom != 0]


def pair(number):
    return (number.numerator, number.denominator)


def long_pairs():
    """Tops and bottoms of up to 60, 400 and 5000 figures, of either sign, with divisors in common: always the same."""
    source = Random(5)
    for figures in (60, 400, 5000):
        for turn in range(12):
            common = source.randrange(1, 10 ** (figures // 2))
            top = source.randrange(10 ** (figures // 2)) * common * source.choice((1, -1))
            bottom = source.randrange(1, 10 ** (figures // 2)) * common * source.choice((1, -1))
            yield top, bottom


def some_fractions():
    found = sorted(set(Fraction(top, bottom) for top, bottom in SMALL if abs(top) < 6 and 0 < bottom < 6))
    return found + [Fraction(top, bottom) for top, bottom in list(long_pairs())[:18]]


class Made(unittest.TestCase):
    def test_by_hand(self):
        self.assertEqual(fraction(6, 4), (3, 2))
        self.assertEqual(fraction(-6, 4), (-3, 2))
        self.assertEqual(fraction(6, -4), (-3, 2))
        self.assertEqual(fraction(-6, -4), (3, 2))
        self.assertEqual(fraction(4, 6), (2, 3))
        self.assertEqual(fraction(5, 7), (5, 7))
        self.assertEqual(fraction(12, 4), (3, 1))
        self.assertEqual(fraction(12, -12), (-1, 1))
        self.assertEqual(fraction(1, 1), (1, 1))
        self.assertEqual(fraction(-1, -1), (1, 1))

    def test_nought(self):
        for bottom in (1, -1, 2, -2, 10, BIG, -BIG):
            self.assertEqual(fraction(0, bottom), (0, 1))

    def test_of_small_numbers(self):
        for top, bottom in SMALL:
            self.assertEqual(fraction(top, bottom), pair(Fraction(top, bottom)))

    def test_of_many_figures(self):
        self.assertEqual(fraction(3 * BIG, 6 * BIG), (1, 2))
        self.assertEqual(fraction(-BIG, BIG), (-1, 1))
        self.assertEqual(fraction(BIG, -BIG - 1), (-BIG, BIG + 1))
        self.assertEqual(fraction(1, -BIG), (-1, BIG))
        self.assertEqual(fraction(BIG, 1), (BIG, 1))
        for top, bottom in long_pairs():
            found = fraction(top, bottom)
            self.assertEqual(found, pair(Fraction(top, bottom)))
            self.assertEqual((gcd(*found), found[1] >= 1), (1, True))

    def test_it_is_a_tuple_of_two_whole_numbers(self):
        for top, bottom in SMALL:
            found = fraction(top, bottom)
            self.assertEqual([value.__class__ for value in (found, *found)], [tuple, int, int])

    def test_made_of_a_fraction_it_is_the_same(self):
        for number in some_fractions():
            self.assertEqual(fraction(*pair(number)), pair(number))

    def test_arguments_by_name(self):
        self.assertEqual(fraction(bottom=-4, top=6), (-3, 2))
        self.assertEqual(plus(two=(1, 2), one=(1, 3)), (5, 6))
        self.assertEqual(minus(two=(1, 2), one=(1, 3)), (-1, 6))
        self.assertEqual(times(two=(1, 2), one=(1, 3)), (1, 6))
        self.assertIs(less(two=(1, 2), one=(1, 3)), True)
        self.assertEqual(sum_up(some=[(1, 2)]), (1, 2))


class Reckoned(unittest.TestCase):
    def test_by_hand(self):
        self.assertEqual(plus((1, 6), (1, 3)), (1, 2))
        self.assertEqual(plus((1, 6), (-1, 6)), (0, 1))
        self.assertEqual(plus((-5, 4), (1, 6)), (-13, 12))
        self.assertEqual(minus((1, 6), (1, 6)), (0, 1))
        self.assertEqual(minus((1, 6), (2, 3)), (-1, 2))
        self.assertEqual(minus((0, 1), (-2, 3)), (2, 3))
        self.assertEqual(times((2, 3), (3, 2)), (1, 1))
        self.assertEqual(times((-2, 3), (3, 4)), (-1, 2))
        self.assertEqual(times((-2, 3), (-3, 4)), (1, 2))
        self.assertEqual(times((0, 1), (-3, 4)), (0, 1))

    def test_each_with_each(self):
        known = some_fractions()
        for one in known:
            for two in known:
                self.assertEqual(plus(pair(one), pair(two)), pair(one + two))
                self.assertEqual(minus(pair(one), pair(two)), pair(one - two))
                self.assertEqual(times(pair(one), pair(two)), pair(one * two))
                self.assertIs(less(pair(one), pair(two)), one < two)

    def test_less_by_a_little(self):
        self.assertIs(less((BIG - 1, BIG), (1, 1)), True)
        self.assertIs(less((1, 1), (BIG, BIG - 1)), True)
        self.assertIs(less((BIG, BIG - 1), (1, 1)), False)
        self.assertIs(less((-1, BIG), (0, 1)), True)
        self.assertIs(less((0, 1), (-1, BIG)), False)
        self.assertIs(less((-BIG, BIG - 1), (-1, 1)), True)
        self.assertIs(less((1, 3), (1, 3)), False)
        self.assertIs(less((0, 1), (0, 1)), False)

    def test_tuples_are_told(self):
        for found in (plus((1, 2), (1, 2)), minus((1, 2), (1, 2)), times((1, 2), (1, 2)), sum_up([]), sum_up([(1, 2)])):
            self.assertIs(found.__class__, tuple)


class SummedUp(unittest.TestCase):
    def test_of_none(self):
        self.assertEqual(sum_up([]), (0, 1))
        self.assertEqual(sum_up(()), (0, 1))

    def test_by_hand(self):
        self.assertEqual(sum_up([(-3, 4)]), (-3, 4))
        self.assertEqual(sum_up([(1, 2), (1, 3), (1, 6)]), (1, 1))
        self.assertEqual(sum_up([(1, 2), (1, 3), (-5, 6)]), (0, 1))
        self.assertEqual(sum_up([(1, 4), (1, 6), (1, 10)]), (31, 60))
        self.assertEqual(sum_up([(5, 1), (-7, 1)]), (-2, 1))
        self.assertEqual(sum_up([(1, 4)] * 6), (3, 2))

    def test_of_many(self):
        source = Random(9)
        known = some_fractions()
        for turn in range(60):
            some = [source.choice(known) for k in range(turn)]
            pairs = [pair(number) for number in some]
            found = sum_up(pairs)
            self.assertEqual(found, pair(sum(some, Fraction(0))))
            self.assertEqual(sum_up(tuple(pairs)), found)
            self.assertEqual(sum_up(pairs[::-1]), found)

    def test_it_is_what_plus_makes_one_after_the_other(self):
        pairs = [pair(number) for number in some_fractions()]
        added = (0, 1)
        for one in pairs:
            added = plus(added, one)
        self.assertEqual(sum_up(pairs), added)

    def test_the_list_stays_as_it_was(self):
        some = [(1, 2), (-1, 3), (0, 1)]
        sum_up(some)
        self.assertEqual(some, [(1, 2), (-1, 3), (0, 1)])
        self.assertEqual(sum_up(some), (1, 6))


if __name__ == "__main__":
    unittest.main()
