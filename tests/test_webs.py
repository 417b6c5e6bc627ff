"""Stage 1: webs."""

import unittest

from samples import ALONE, BRANCHED, HUGE, LONG_ROW, PAIR, ROW, STAR, all_webs, made, tolls

from pebbletoll.errors import BadWeb, NoPlace, NoRoad
from pebbletoll.webs import Web, neighbours, toll


def row_of(many):
    return [(k, k + 1, 2, 3) for k in range(many - 1)]


class WebsThatAreMade(unittest.TestCase):
    def test_fields_are_as_handed_in(self):
        for many, roads in all_webs():
            web = Web(many, roads)
            self.assertEqual(web.many, many)
            self.assertEqual(web.roads, tuple(roads))
            self.assertIs(type(web.many), int)
            self.assertIs(type(web.roads), tuple)
            for road in web.roads:
                self.assertIs(type(road), tuple)

    def test_one_two_and_twenty_four_places(self):
        for many in (1, 2, 24):
            self.assertEqual(Web(many, row_of(many)).many, many)

    def test_arguments_by_name(self):
        web = Web(many=2, roads=[(0, 1, 2, 3)])
        self.assertEqual(toll(web=web, a=0, b=1), 2)
        self.assertEqual(neighbours(web=web, a=0), [1])

    def test_no_method_but_the_making(self):
        methods = [name for name, value in vars(Web).items() if callable(value)]
        self.assertEqual(methods, ["__init__"])

    def test_least_and_greatest_tolls(self):
        for number in (2, 3, 10 ** 6 - 1, 10 ** 6):
            self.assertEqual(toll(Web(2, [(0, 1, number, 5)]), 0, 1), number)
            self.assertEqual(toll(Web(2, [(0, 1, 5, number)]), 1, 0), number)


class WebsThatAreRefused(unittest.TestCase):
    def refused(self, many, roads):
        with self.assertRaises(BadWeb):
            Web(many, roads)

    def test_counts_of_places(self):
        for many in (0, -1, -24, 25, 26, HUGE, -HUGE):
            self.refused(many, [])
            self.refused(many, row_of(24))
        self.refused(25, row_of(25))
        self.refused(0, [(0, 0, 2, 2)])
        self.refused(0, [(0, 1, 2, 2)])

    def test_a_road_too_few_or_too_many(self):
        for many in (2, 3, 24):
            self.refused(many, row_of(many)[1:])
            self.refused(many, row_of(many)[:-1])
            self.refused(many, row_of(many) + [(0, many - 1, 2, 2)])
            self.refused(many, row_of(many) + [(0, 1, 2, 3)])
        self.refused(1, [(0, 0, 2, 2)])
        self.refused(1, [(0, 1, 2, 2)])
        self.refused(3, [])

    def test_a_road_of_a_place_with_itself(self):
        for place in (0, 1):
            self.refused(2, [(place, place, 2, 2)])
        for place in (0, 1, 2):
            self.refused(3, [(0, 1, 2, 2), (place, place, 2, 2)])
            self.refused(3, [(place, place, 2, 2), (1, 2, 2, 2)])

    def test_an_end_that_is_no_place(self):
        for many in (2, 3, 24):
            for number in (-1, -many, many, many + 1, HUGE, -HUGE, 10 ** 5000, -10 ** 5000):
                self.refused(many, row_of(many)[:-1] + [(0, number, 2, 2)])
                self.refused(many, row_of(many)[:-1] + [(number, 0, 2, 2)])
                self.refused(many, [(number, many - 1, 2, 2)] + row_of(many)[:-1])
                self.refused(many, [(number, number, 2, 2)] + row_of(many)[:-1])

    def test_an_end_below_nought_does_not_count_from_the_end(self):
        self.refused(3, [(0, 1, 2, 2), (0, -1, 2, 2)])
        self.refused(3, [(0, 1, 2, 2), (-3, 2, 2, 2)])

    def test_tolls(self):
        for number in (1, 0, -1, -2, 10 ** 6 + 1, HUGE, -HUGE, 10 ** 5000, -10 ** 5000):
            self.refused(2, [(0, 1, number, 2)])
            self.refused(2, [(0, 1, 2, number)])
            self.refused(2, [(0, 1, number, number)])
            self.refused(3, [(0, 1, 2, 2), (1, 2, number, 2)])
            self.refused(3, [(0, 1, 2, number), (1, 2, 2, 2)])

    def test_a_road_told_twice(self):
        self.refused(3, [(0, 1, 2, 3), (0, 1, 2, 3)])
        self.refused(3, [(0, 1, 2, 3), (1, 0, 3, 2)])
        self.refused(3, [(1, 2, 2, 3), (2, 1, 2, 3)])
        self.refused(4, [(0, 1, 2, 3), (1, 2, 2, 2), (2, 1, 5, 5)])

    def test_a_round_and_a_part_that_one_does_not_come_to(self):
        self.refused(4, [(0, 1, 2, 2), (1, 2, 2, 2), (2, 0, 2, 2)])
        self.refused(4, [(1, 2, 2, 2), (2, 3, 2, 2), (3, 1, 2, 2)])
        self.refused(5, [(0, 1, 2, 2), (2, 3, 2, 2), (3, 4, 2, 2), (4, 2, 2, 2)])
        self.refused(24, row_of(23) + [(22, 0, 2, 2)])
        self.refused(24, row_of(24)[:11] + [(11, 0, 2, 2)] + row_of(24)[12:])

    def test_several_faults_at_once(self):
        self.refused(0, [(HUGE, -1, 1, 0), (0, 0, 0, 0)])
        self.refused(HUGE, [(HUGE, HUGE, HUGE, HUGE)])


class Tolls(unittest.TestCase):
    def test_every_pair_of_places(self):
        for sample in all_webs():
            web = made(sample)
            known = tolls(sample)
            for a in range(web.many):
                for b in range(web.many):
                    if (a, b) in known:
                        self.assertEqual(toll(web, a, b), known[(a, b)])
                    else:
                        with self.assertRaises(NoRoad):
                            toll(web, a, b)

    def test_some_by_hand(self):
        web = made(ROW)
        self.assertEqual([toll(web, 0, 1), toll(web, 1, 0)], [2, 3])
        self.assertEqual([toll(web, 1, 2), toll(web, 2, 1)], [7, 5])
        self.assertEqual([toll(web, 2, 3), toll(web, 3, 2)], [11, 13])

    def test_numbers_that_are_no_places(self):
        for sample in (ALONE, PAIR, ROW, STAR, LONG_ROW):
            web = made(sample)
            for wrong in (-1, -web.many, web.many, web.many + 1, HUGE, -HUGE, 10 ** 5000):
                for a, b in ((wrong, 0), (0, wrong), (wrong, wrong), (web.many - 1, wrong), (wrong, -1)):
                    with self.assertRaises(NoPlace):
                        toll(web, a, b)


class Neighbours(unittest.TestCase):
    def test_every_place(self):
        for sample in all_webs():
            web = made(sample)
            known = tolls(sample)
            for a in range(web.many):
                told = neighbours(web, a)
                self.assertIs(type(told), list)
                self.assertEqual(told, [b for b in range(web.many) if (a, b) in known])

    def test_some_by_hand(self):
        self.assertEqual(neighbours(made(ALONE), 0), [])
        self.assertEqual(neighbours(made(STAR), 2), [0, 1, 3, 4])
        self.assertEqual(neighbours(made(STAR), 4), [2])
        self.assertEqual(neighbours(made(BRANCHED), 0), [3, 5, 6])
        self.assertEqual(neighbours(made(BRANCHED), 6), [0, 1, 2])

    def test_numbers_that_are_no_places(self):
        for sample in (ALONE, PAIR, ROW, STAR, LONG_ROW):
            web = made(sample)
            for wrong in (-1, -web.many, web.many, HUGE, -HUGE, 10 ** 5000):
                with self.assertRaises(NoPlace):
                    neighbours(web, wrong)


if __name__ == "__main__":
    unittest.main()
