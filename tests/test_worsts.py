"""Stage 8: worst layings."""

import unittest
from fractions import Fraction
from math import comb
from random import Random

import samples
from samples import (
    ALONE, BIG_EVEN, BIG_EVEN_STAR, EVEN, EVEN_BRANCHED, EVEN_ROW, EVEN_STAR, EVEN_TWICE, HUGE, NAMED, PAIR, STAR,
    cheap_webs, laid, made, parts, slow_worsts, tolls, wrong_lists, wrong_places,
)

from pebbletoll.bringing import gathered, most
from pebbletoll.enough import enough, worst
from pebbletoll.errors import BadLaying, BadWish, NoNumber, NoPlace, TooMany
from pebbletoll.ways import down
from pebbletoll.webs import Web
from pebbletoll.worsts import is_worst, worst_at, worst_many, worst_number

BIG = 10 ** 399
MOST = 10 ** 12
NOT_WANTED = (0, -1, -2, -10 ** 60, -BIG)
FOUR_EVEN = (EVEN_ROW, EVEN_STAR, EVEN_BRANCHED, EVEN_TWICE)


def row_down(web, r, laying):
    counts = gathered(web, laying, r)
    return [counts[place] for place in down(web, r)]


def by_the_words(sample, r, wanted, laying):
    """Whether a laying is a worst one, as 8.1 tells it."""
    counts = samples.slow_gathered(sample, laying, r)
    weights = samples.slow_weights(sample, r)
    fronts = samples.slow_ahead(sample, r)
    if counts[r] != wanted - 1:
        return False
    for place in range(sample[0]):
        if laying[place] > 0 and samples.slow_kids(sample, r, place):
            return False
        if place != r:
            toll = tolls(sample)[(place, fronts[place])]
            is_heavy = weights[place] * toll == weights[fronts[place]]
            if counts[place] % toll != toll - 1 or (not is_heavy and counts[place] != toll - 1):
                return False
    return True


class ByHand(unittest.TestCase):
    def test_two_heavy_kids(self):
        web = made(EVEN_ROW)
        self.assertEqual(worst_many(web, 0, 3), 3)
        self.assertEqual([worst_at(web, 0, 3, k) for k in range(3)], [(0, 1, 5), (0, 3, 3), (0, 5, 1)])
        self.assertEqual(worst_number(web, 0, 3, (0, 3, 3)), 1)
        self.assertIs(is_worst(web, 0, 3, (0, 3, 3)), True)
        self.assertIs(is_worst(web, 0, 3, (0, 2, 4)), False)
        self.assertIs(is_worst(web, 0, 3, (2, 1, 1)), False)
        self.assertEqual(worst_many(web, 0, 1), 1)
        self.assertEqual(worst_at(web, 0, 1, 0), (0, 1, 1))

    def test_heavy_kids_of_heavy_kids(self):
        web = made(EVEN_BRANCHED)
        told = [
            (0, 0, 0, 1, 3, 7), (0, 0, 0, 3, 1, 7),
            (0, 0, 0, 1, 7, 3), (0, 0, 0, 3, 5, 3), (0, 0, 0, 5, 3, 3), (0, 0, 0, 7, 1, 3),
        ]
        self.assertEqual(worst_many(web, 0, 2), 6)
        self.assertEqual([worst_at(web, 0, 2, k) for k in range(6)], told)
        self.assertEqual([worst_number(web, 0, 2, laying) for laying in told], [0, 1, 2, 3, 4, 5])

    def test_one_heavy_kid(self):
        web = made(STAR)
        self.assertEqual(worst_many(web, 2, 2), 1)
        self.assertEqual(worst_at(web, 2, 2, 0), (2, 12, 0, 33, 4))
        self.assertEqual(worst_number(web, 2, 2, [2, 12, 0, 33, 4]), 0)
        self.assertIs(is_worst(web, 2, 2, (2, 12, 0, 33, 4)), True)
        self.assertIs(is_worst(web, 2, 2, (5, 12, 0, 30, 4)), False)

    def test_a_light_kid_gives_nothing_but_its_pebbles_lie_in_many_ways(self):
        # Seen from 0: 1 is light, with the heavy kids 2 and 3; 4 is heavy.
        web = Web(5, [(1, 0, 2, 2), (2, 1, 2, 2), (3, 1, 2, 2), (4, 0, 9, 2)])
        self.assertEqual(worst_many(web, 0, 1), 2)
        self.assertEqual(worst_many(web, 0, 7), 2)
        self.assertEqual(worst_at(web, 0, 7, 0), (0, 0, 1, 3, 62))
        self.assertEqual(worst_at(web, 0, 7, 1), (0, 0, 3, 1, 62))

    def test_on_one_place(self):
        web = made(ALONE)
        for wanted in (1, 2, 10 ** 12):
            self.assertEqual(worst_many(web, 0, wanted), 1)
            self.assertEqual(worst_at(web, 0, wanted, 0), (wanted - 1,))
            self.assertEqual(worst_number(web, 0, wanted, (wanted - 1,)), 0)
            self.assertIs(is_worst(web, 0, wanted, (wanted - 1,)), True)
            self.assertIs(is_worst(web, 0, wanted, (wanted,)), False)


class AllLayingsTried(unittest.TestCase):
    def check(self, sample, r, wanted):
        web = made(sample)
        find = samples.most_finder(sample, r)
        pebbles = enough(web, r, wanted) - 1
        found = [laying for laying in parts(pebbles, web.many) if find(laying) < wanted]
        self.assertEqual(worst_many(web, r, wanted), len(found))
        rows = sorted((row_down(web, r, laying), laying) for laying in found)
        self.assertEqual([worst_at(web, r, wanted, k) for k in range(len(found))], [row[1] for row in rows])
        numbers = [worst_number(web, r, wanted, row[1]) for row in rows]
        self.assertEqual(numbers, list(range(len(found))))

    def test_cheap_webs_seen_from_every_place(self):
        for sample in cheap_webs(4):
            web = made(sample)
            for r in range(web.many):
                for wanted in (1, 2, 3, 4):
                    if enough(web, r, wanted) <= (99, 99, 60, 28)[web.many - 1]:
                        self.check(sample, r, wanted)

    def test_even_webs(self):
        for sample, greatest in ((EVEN_ROW, 99), (EVEN_STAR, 45), (EVEN_BRANCHED, 20)):
            for r in range(sample[0]):
                for wanted in range(1, 9):
                    if enough(made(sample), r, wanted) <= greatest:
                        self.check(sample, r, wanted)

    def test_which_layings_are_worst_ones(self):
        counts = {True: 0, False: 0}
        for sample, greatest in [(sample, 14) for sample in cheap_webs(3)] + [(EVEN_STAR, 8), (EVEN_BRANCHED, 8)]:
            web = made(sample)
            for r in range(web.many):
                find = samples.most_finder(sample, r)
                for wanted in (1, 2, 3):
                    pebbles = enough(web, r, wanted) - 1
                    if pebbles < greatest:
                        for laying in parts(pebbles, web.many):
                            told = is_worst(web, r, wanted, laying)
                            self.assertIs(told, find(laying) < wanted)
                            self.assertIs(told, by_the_words(sample, r, wanted, laying))
                            counts[told] += 1
        self.assertGreater(min(counts.values()), 50)

    def test_one_pebble_more_or_fewer(self):
        for sample in FOUR_EVEN + NAMED:
            web = made(sample)
            for r in range(web.many):
                for wanted in (1, 2, BIG):
                    laying = list(worst(web, r, wanted))
                    self.assertIs(is_worst(web, r, wanted, laying), True)
                    self.assertIs(is_worst(web, r, wanted + 1, laying), False)
                    if wanted > 1:
                        self.assertIs(is_worst(web, r, wanted - 1, laying), False)
                    for change in (1, -1):
                        for place in range(web.many):
                            if laying[place] + change >= 0:
                                other = list(laying)
                                other[place] += change
                                self.assertIs(is_worst(web, r, wanted, other), False)


class AllWorstOnesTried(unittest.TestCase):
    def test_numbers_there_and_back(self):
        for sample in FOUR_EVEN:
            web = made(sample)
            for r in range(web.many):
                for wanted in (1, 2, 3, 4):
                    rows = slow_worsts(sample, r, wanted)
                    self.assertEqual(worst_many(web, r, wanted), len(rows))
                    for number, row in list(enumerate(rows))[::1 + len(rows) // 60]:
                        laying = laid(sample, r, row)
                        self.assertEqual(worst_at(web, r, wanted, number), laying)
                        self.assertEqual(worst_number(web, r, wanted, laying), number)
                        self.assertIs(is_worst(web, r, wanted, laying), True)

    def test_greater_ones(self):
        for sample, r, wanted in ((EVEN_TWICE, 0, 12), (EVEN_TWICE, 2, 9), (EVEN_BRANCHED, 0, 14), (EVEN_STAR, 0, 40)):
            web = made(sample)
            rows = slow_worsts(sample, r, wanted)
            self.assertGreater(len(rows), 150)
            self.assertEqual(worst_many(web, r, wanted), len(rows))
            for number in list(range(0, len(rows), 1 + len(rows) // 150)) + [len(rows) - 1]:
                laying = laid(sample, r, rows[number])
                self.assertEqual(worst_at(web, r, wanted, number), laying)
                self.assertEqual(worst_number(web, r, wanted, laying), number)


class ManyFigures(unittest.TestCase):
    def test_a_star_with_all_kids_heavy(self):
        web = made(BIG_EVEN_STAR)
        for wanted in (1, 2, 3, 50, 10 ** 9, 10 ** 60, 10 ** 400 - 1):
            self.assertEqual(worst_many(web, 23, wanted), comb(wanted - 1 + 22, 22))
            # From another place: what comes to 23 is 5 for each one wanted, less one.
            self.assertEqual(worst_many(web, 4, wanted), comb(5 * wanted - 1 + 21, 21))
        self.assertGreater(worst_many(web, 23, 10 ** 400 - 1), 10 ** 8000)

    def test_heavy_kids_of_heavy_kids(self):
        # 0 with the kids 1 and 2, each of which has two kids itself.
        web = Web(7, [(1, 0, 3, 2), (2, 0, 5, 2), (3, 1, 5, 2), (4, 1, 5, 2), (5, 2, 3, 2), (6, 2, 3, 2)])
        for wanted in (1, 2, 7, 10 ** 9, 10 ** 400 - 1):
            self.assertEqual(worst_many(web, 0, wanted), 15 * comb(wanted + 2, 3))

    def test_as_the_few_first_ones_grow(self):
        # As many numbers as places tell how the count grows with what is wanted.
        for sample, r in ((EVEN_TWICE, 0), (EVEN_TWICE, 4), (EVEN_BRANCHED, 5), (EVEN_BRANCHED, 2), (EVEN_STAR, 3)):
            points = [(wanted, len(slow_worsts(sample, r, wanted))) for wanted in range(1, 6)]
            for wanted in (7, 100, 10 ** 12, 10 ** 400 - 1):
                self.assertEqual(worst_many(made(sample), r, wanted), grown(points, wanted))

    def test_numbers_there_and_back_on_great_webs(self):
        source = Random(11)
        for sample, r, wanted in ((BIG_EVEN_STAR, 23, 10 ** 11), (BIG_EVEN_STAR, 4, 10 ** 10), (BIG_EVEN, 0, 10 ** 10),
                                  (BIG_EVEN, 1, 10 ** 9), (BIG_EVEN, 23, 10 ** 7), (BIG_EVEN, 6, 2)):
            web = made(sample)
            count = worst_many(web, r, wanted)
            self.assertGreater(count, 10 ** 4)
            before = None
            some = [source.randrange(count) for turn in range(8)]
            for number in sorted([0, 1, count - 2, count - 1] + some + [number // 10 ** 4 for number in some]):
                laying = worst_at(web, r, wanted, number)
                self.assertIs(type(laying), tuple)
                self.assertEqual(sum(laying), enough(web, r, wanted) - 1)
                self.assertLess(most(web, laying, r), wanted)
                self.assertEqual(worst_number(web, r, wanted, laying), number)
                if before is not None and before[0] < number:
                    self.assertLess(before[1], row_down(web, r, laying))
                before = (number, row_down(web, r, laying))

    def test_the_first_and_the_last(self):
        web = made(BIG_EVEN_STAR)
        wanted = 10 ** 11
        last = comb(wanted + 21, 22) - 1
        greatest = 7 * wanted - 1
        self.assertEqual(worst_at(web, 23, wanted, 0), (6,) * 22 + (greatest, 0))
        self.assertEqual(worst_at(web, 23, wanted, 1), (6,) * 21 + (13, greatest - 7, 0))
        self.assertEqual(worst_at(web, 23, wanted, wanted - 1), (6,) * 21 + (greatest, 6, 0))
        self.assertEqual(worst_at(web, 23, wanted, wanted), (6,) * 20 + (13, 6, greatest - 7, 0))
        self.assertEqual(worst_at(web, 23, wanted, last), (greatest,) + (6,) * 22 + (0,))
        self.assertEqual(worst_number(web, 23, wanted, (greatest,) + (6,) * 22 + (0,)), last)


def grown(points, at):
    """The value there of the polynomial of least degree through the points."""
    value = Fraction(0)
    for one, height in points:
        term = Fraction(height)
        for other, unused in points:
            if other != one:
                term = term * (at - other) / (one - other)
        value += term
    return value


class Told(unittest.TestCase):
    def test_counts_from_1_on(self):
        for sample in NAMED + EVEN:
            web = made(sample)
            for r in range(web.many):
                for wanted in (1, 2, 10 ** 400 - 1):
                    told = worst_many(web, r, wanted)
                    self.assertIs(type(told), int)
                    self.assertGreaterEqual(told, 1)

    def test_the_worst_laying_told_has_the_number_0(self):
        for sample in NAMED + EVEN:
            web = made(sample)
            for r in range(web.many):
                for wanted in (1, 2, 5):
                    if enough(web, r, wanted) <= MOST:
                        laying = worst(web, r, wanted)
                        self.assertEqual(worst_at(web, r, wanted, 0), laying)
                        self.assertEqual(worst_number(web, r, wanted, laying), 0)
                        self.assertEqual(worst_number(web, r, wanted, list(laying)), 0)
                        self.assertIs(is_worst(web, r, wanted, list(laying)), True)


# Webs, places and numbers wanted for which just 10 ** 12 pebbles are enough.
JUST = (
    (ALONE, 0, MOST), (PAIR, 0, MOST // 2), (PAIR, 1, 10 ** 6), (EVEN_STAR, 0, MOST // 2 - 1),
    ((3, [(0, 1, 3, 2), (2, 1, 2, 2)]), 1, (MOST - 1) // 3),
)
# And for which 10 ** 12 and one more are.
ONE_MORE = ((ALONE, 0, MOST + 1), (EVEN_ROW, 0, MOST // 2))


class TooManyPebbles(unittest.TestCase):
    def test_just_so_many(self):
        for sample, r, wanted in JUST:
            web = made(sample)
            self.assertEqual(enough(web, r, wanted), MOST)
            count = worst_many(web, r, wanted)
            for number in (0, count // 2, count - 1):
                laying = worst_at(web, r, wanted, number)
                self.assertEqual(sum(laying), MOST - 1)
                self.assertEqual(worst_number(web, r, wanted, laying), number)
            self.assertRaises(NoNumber, worst_at, web, r, wanted, count)
            self.assertRaises(NoNumber, worst_number, web, r, wanted, [0] * web.many)

    def test_one_more(self):
        for sample, r, wanted in ONE_MORE:
            self.assertEqual(enough(made(sample), r, wanted), MOST + 1)
            self.check_refused(sample, r, wanted)

    def test_many_more(self):
        for sample, r, wanted in JUST + ONE_MORE:
            self.check_refused(sample, r, wanted + 1)
            self.check_refused(sample, r, BIG)
        for sample in NAMED + EVEN:
            self.check_refused(sample, sample[0] - 1, 10 ** 12 + 1)

    def check_refused(self, sample, r, wanted):
        web = made(sample)
        laying = worst(web, r, wanted)
        self.assertGreaterEqual(worst_many(web, r, wanted), 1)
        self.assertIs(is_worst(web, r, wanted, laying), True)
        for number in (0, -1, 10 ** 400, 10 ** 9000, -10 ** 9000):
            self.assertRaises(TooMany, worst_at, web, r, wanted, number)
        for numbers in (laying, [0] * web.many, [], [-1] * web.many, [0] * (web.many + 1)):
            self.assertRaises(TooMany, worst_number, web, r, wanted, numbers)


class Refusals(unittest.TestCase):
    def asks(self, web, r, wanted):
        for numbers in ([0] * web.many, [], [-1] * web.many):
            yield lambda numbers=numbers: is_worst(web, r, wanted, numbers)
            yield lambda numbers=numbers: worst_number(web, r, wanted, numbers)
        for number in (0, -1, BIG):
            yield lambda number=number: worst_at(web, r, wanted, number)
        yield lambda: worst_many(web, r, wanted)

    def test_no_place_goes_first(self):
        for sample in NAMED + EVEN:
            web = made(sample)
            for wrong in wrong_places(web.many):
                for wanted in (1, MOST + 1, BIG) + NOT_WANTED:
                    for ask in self.asks(web, wrong, wanted):
                        self.assertRaises(NoPlace, ask)

    def test_then_bad_wish(self):
        for sample in NAMED + EVEN:
            web = made(sample)
            for wanted in NOT_WANTED:
                for r in range(web.many):
                    for ask in self.asks(web, r, wanted):
                        self.assertRaises(BadWish, ask)

    def test_then_bad_laying(self):
        for sample in NAMED + EVEN:
            web = made(sample)
            for wrong in wrong_lists(web.many):
                for wanted in (1, 2, HUGE):
                    self.assertRaises(BadLaying, is_worst, web, 0, wanted, wrong)
                if enough(web, 0, 2) <= MOST:
                    self.assertRaises(BadLaying, worst_number, web, 0, 2, wrong)

    def test_a_bad_laying_with_the_right_sum(self):
        web = made(EVEN_ROW)
        for wrong in ([0, 7, -1], [6], [0, 3, 3, 0], [0, 3, 2, 1]):
            self.assertRaises(BadLaying, is_worst, web, 0, 3, wrong)
            self.assertRaises(BadLaying, worst_number, web, 0, 3, wrong)

    def test_no_number(self):
        for sample in FOUR_EVEN + (STAR, ALONE, PAIR):
            web = made(sample)
            for r in range(web.many):
                for wanted in (1, 2, 5):
                    count = worst_many(web, r, wanted)
                    for number in (-1, -2, -count, count, count + 1, HUGE, -HUGE, BIG, 10 ** 9000, -10 ** 9000):
                        self.assertRaises(NoNumber, worst_at, web, r, wanted, number)

    def test_no_worst_laying(self):
        for sample in FOUR_EVEN + (STAR, ALONE, PAIR):
            web = made(sample)
            for r in range(web.many):
                laying = list(worst(web, r, 4))
                for place in range(web.many):
                    for change in (1, -1, BIG):
                        if laying[place] + change >= 0:
                            other = list(laying)
                            other[place] += change
                            self.assertRaises(NoNumber, worst_number, web, r, 4, other)
                for wanted in (1, 3, 5, 8):
                    self.assertRaises(NoNumber, worst_number, web, r, wanted, laying)

    def test_as_many_pebbles_but_no_worst_laying(self):
        web = made(EVEN_ROW)
        for laying in parts(6, 3):
            if laying in ((0, 1, 5), (0, 3, 3), (0, 5, 1)):
                self.assertEqual(worst_at(web, 0, 3, worst_number(web, 0, 3, laying)), laying)
            else:
                self.assertRaises(NoNumber, worst_number, web, 0, 3, laying)


class ArgumentsByName(unittest.TestCase):
    def test_names(self):
        web = made(EVEN_ROW)
        self.assertIs(is_worst(web=web, r=0, wanted=3, laying=(0, 3, 3)), True)
        self.assertEqual(worst_many(web=web, r=0, wanted=3), 3)
        self.assertEqual(worst_at(web=web, r=0, wanted=3, number=2), (0, 5, 1))
        self.assertEqual(worst_number(web=web, r=0, wanted=3, laying=(0, 5, 1)), 2)


if __name__ == "__main__":
    unittest.main()
