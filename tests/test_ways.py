"""Stage 2: ways."""

import unittest

import samples
from samples import ALONE, BRANCHED, HUGE, LONG_ROW, PAIR, ROW, STAR, all_webs, made

from pebbletoll.errors import NoPlace, NoRoad
from pebbletoll.ways import ahead, beyond, down, price, way


def pairs(many):
    return [(a, b) for a in range(many) for b in range(many)]


def wrong_numbers(web):
    return (-1, -web.many, web.many, web.many + 1, HUGE, -HUGE, 10 ** 5000)


class WaysAndPrices(unittest.TestCase):
    def test_way_by_hand(self):
        self.assertEqual(way(made(ROW), 0, 3), [0, 1, 2, 3])
        self.assertEqual(way(made(ROW), 3, 0), [3, 2, 1, 0])
        self.assertEqual(way(made(ROW), 2, 1), [2, 1])
        self.assertEqual(way(made(STAR), 4, 0), [4, 2, 0])
        self.assertEqual(way(made(STAR), 2, 3), [2, 3])
        self.assertEqual(way(made(BRANCHED), 5, 4), [5, 0, 6, 1, 4])
        self.assertEqual(way(made(BRANCHED), 2, 3), [2, 6, 0, 3])
        self.assertEqual(way(made(BRANCHED), 6, 6), [6])
        self.assertEqual(way(made(ALONE), 0, 0), [0])

    def test_price_by_hand(self):
        self.assertEqual(price(made(ROW), 0, 3), 2 * 7 * 11)
        self.assertEqual(price(made(ROW), 3, 0), 13 * 5 * 3)
        self.assertEqual(price(made(ROW), 1, 2), 7)
        self.assertEqual(price(made(STAR), 4, 0), 5 * 2)
        self.assertEqual(price(made(STAR), 0, 4), 3 * 7)
        self.assertEqual(price(made(BRANCHED), 5, 4), 5 * 3 * 9 * 11)
        self.assertEqual(price(made(BRANCHED), 4, 5), 10 * 8 * 2 * 4)
        self.assertEqual(price(made(BRANCHED), 3, 3), 1)
        self.assertEqual(price(made(ALONE), 0, 0), 1)
        self.assertEqual(price(made(PAIR), 0, 1), 10 ** 6)
        self.assertEqual(price(made(PAIR), 1, 0), 2)

    def test_the_greatest_price(self):
        dear = samples.Web(24, [(k, k + 1, 10 ** 6, 2) for k in range(23)])
        self.assertEqual(price(dear, 0, 23), 10 ** 138)
        self.assertEqual(price(dear, 23, 0), 2 ** 23)

    def test_every_pair_of_places(self):
        for sample in all_webs():
            web = made(sample)
            for a, b in pairs(web.many):
                told = way(web, a, b)
                self.assertIs(type(told), list)
                self.assertEqual(told, samples.slow_way(sample, a, b))
                self.assertEqual(price(web, a, b), samples.slow_price(sample, a, b))

    def test_numbers_that_are_no_places(self):
        for sample in (ALONE, PAIR, ROW, STAR, BRANCHED, LONG_ROW):
            web = made(sample)
            for wrong in wrong_numbers(web):
                for a, b in ((wrong, 0), (0, wrong), (wrong, wrong), (wrong, web.many - 1), (web.many - 1, wrong)):
                    with self.assertRaises(NoPlace):
                        way(web, a, b)
                    with self.assertRaises(NoPlace):
                        price(web, a, b)


class SeenFromAPlace(unittest.TestCase):
    def test_ahead_by_hand(self):
        self.assertEqual(ahead(made(ROW), 0), [None, 0, 1, 2])
        self.assertEqual(ahead(made(ROW), 2), [1, 2, None, 2])
        self.assertEqual(ahead(made(STAR), 2), [2, 2, None, 2, 2])
        self.assertEqual(ahead(made(STAR), 4), [2, 2, 4, 2, None])
        self.assertEqual(ahead(made(BRANCHED), 0), [None, 6, 6, 0, 1, 0, 0])
        self.assertEqual(ahead(made(BRANCHED), 4), [6, 4, 6, 0, None, 0, 1])
        self.assertEqual(ahead(made(ALONE), 0), [None])

    def test_down_by_hand(self):
        self.assertEqual(down(made(ROW), 0), [0, 1, 2, 3])
        self.assertEqual(down(made(ROW), 2), [2, 1, 0, 3])
        self.assertEqual(down(made(STAR), 2), [2, 0, 1, 3, 4])
        self.assertEqual(down(made(STAR), 3), [3, 2, 0, 1, 4])
        self.assertEqual(down(made(BRANCHED), 0), [0, 3, 5, 6, 1, 4, 2])
        self.assertEqual(down(made(BRANCHED), 6), [6, 0, 3, 5, 1, 4, 2])
        self.assertEqual(down(made(BRANCHED), 4), [4, 1, 6, 0, 3, 5, 2])
        self.assertEqual(down(made(ALONE), 0), [0])

    def test_every_place(self):
        for sample in all_webs():
            web = made(sample)
            for r in range(web.many):
                self.assertEqual(ahead(web, r), samples.slow_ahead(sample, r))
                self.assertEqual(down(web, r), samples.slow_down(sample, r))
                self.assertIs(type(ahead(web, r)), list)
                self.assertIs(type(down(web, r)), list)

    def test_numbers_that_are_no_places(self):
        for sample in (ALONE, PAIR, ROW, STAR, BRANCHED, LONG_ROW):
            web = made(sample)
            for wrong in wrong_numbers(web):
                with self.assertRaises(NoPlace):
                    ahead(web, wrong)
                with self.assertRaises(NoPlace):
                    down(web, wrong)


class BeyondARoad(unittest.TestCase):
    def test_by_hand(self):
        self.assertEqual(beyond(made(ROW), 1, 2), [2, 3])
        self.assertEqual(beyond(made(ROW), 2, 1), [0, 1])
        self.assertEqual(beyond(made(STAR), 0, 2), [1, 2, 3, 4])
        self.assertEqual(beyond(made(STAR), 2, 0), [0])
        self.assertEqual(beyond(made(BRANCHED), 0, 6), [1, 2, 4, 6])
        self.assertEqual(beyond(made(BRANCHED), 6, 0), [0, 3, 5])
        self.assertEqual(beyond(made(BRANCHED), 1, 6), [0, 2, 3, 5, 6])
        self.assertEqual(beyond(made(PAIR), 0, 1), [1])

    def test_every_pair_of_places(self):
        for sample in all_webs():
            web = made(sample)
            known = samples.tolls(sample)
            for a, b in pairs(web.many):
                if (a, b) in known:
                    told = beyond(web, a, b)
                    self.assertIs(type(told), list)
                    self.assertEqual(told, samples.slow_beneath(sample, a, b))
                else:
                    with self.assertRaises(NoRoad):
                        beyond(web, a, b)

    def test_no_place_goes_ahead_of_no_road(self):
        for sample in (ALONE, PAIR, ROW, STAR, BRANCHED, LONG_ROW):
            web = made(sample)
            for wrong in wrong_numbers(web):
                for a, b in ((wrong, 0), (0, wrong), (wrong, wrong), (wrong, web.many - 1), (web.many - 1, wrong)):
                    with self.assertRaises(NoPlace):
                        beyond(web, a, b)


class ArgumentsByName(unittest.TestCase):
    def test_names(self):
        web = made(ROW)
        self.assertEqual(way(web=web, a=0, b=1), [0, 1])
        self.assertEqual(price(web=web, a=0, b=1), 2)
        self.assertEqual(ahead(web=web, r=0), [None, 0, 1, 2])
        self.assertEqual(down(web=web, r=0), [0, 1, 2, 3])
        self.assertEqual(beyond(web=web, a=0, b=1), [1, 2, 3])


if __name__ == "__main__":
    unittest.main()
