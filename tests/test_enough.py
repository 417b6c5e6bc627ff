"""Stage 6: always enough for one place."""

import unittest

import samples
from samples import (
    ALONE, BRANCHED, EVEN, EVEN_BRANCHED, EVEN_ROW, EVEN_STAR, NAMED, PAIR, ROW, STAR, all_webs, cheap_webs, made,
    parts, small_lists, tolls, wrong_places,
)

from pebbletoll.bringing import most
from pebbletoll.enough import bound_by, enough, hardest, least_weights, weighed, weights_stand, worst
from pebbletoll.errors import BadWish, NoPlace

BIG = 10 ** 399
WANTED = (1, 2, 3, 10, 10 ** 6, 10 ** 60, 10 ** 400 - 1)
NOT_WANTED = (0, -1, -2, -10 ** 60, -BIG)


def seen():
    """Each web of the samples, seen from every place."""
    for sample in list(all_webs()) + list(EVEN):
        for r in range(sample[0]):
            yield sample, made(sample), r


def changed(numbers, place, number):
    return numbers[:place] + [number] + numbers[place + 1:]


class ByHand(unittest.TestCase):
    def test_on_a_row(self):
        web = made(ROW)
        self.assertEqual(least_weights(web, 0), [195, 65, 13, 1])
        self.assertEqual(least_weights(web, 1), [1, 65, 13, 1])
        self.assertEqual(least_weights(web, 3), [1, 2, 14, 154])
        self.assertEqual(bound_by(web, 0, 1, [195, 65, 13, 1]), 65 * 2 + 13 * 4 + 12)
        self.assertEqual(bound_by(web, 0, 3, [195, 65, 13, 1]), 195 * 2 + 65 * 2 + 13 * 4 + 12)
        self.assertEqual(enough(web, 0, 1), 195)
        self.assertEqual(enough(web, 0, 3), 585)
        self.assertEqual(enough(web, 1, 1), 65 + 1)
        self.assertEqual(worst(web, 0, 3), (0, 0, 0, 584))
        self.assertEqual(worst(web, 1, 2), (1, 0, 0, 129))
        self.assertEqual(hardest(web, 1), (195, 0))

    def test_on_a_star(self):
        web = made(STAR)
        self.assertEqual(least_weights(web, 2), [1, 1, 17, 1, 1])
        self.assertEqual(least_weights(web, 0), [34, 1, 17, 1, 1])
        self.assertEqual(enough(web, 2, 1), 2 + 12 + 16 + 4 + 1)
        self.assertEqual(enough(web, 2, 2), 17 + 2 + 12 + 16 + 4 + 1)
        self.assertEqual(worst(web, 2, 2), (2, 12, 0, 33, 4))
        self.assertEqual(worst(web, 0, 1), (0, 12, 0, 33, 4))
        self.assertEqual(hardest(web, 1), (13 * 18 + 2 + 12 + 4 + 1, 3))

    def test_on_a_branched_web(self):
        web = made(BRANCHED)
        self.assertEqual(least_weights(web, 6), [6, 10, 1, 1, 1, 1, 80])
        self.assertEqual(enough(web, 6, 1), 113)
        self.assertEqual(enough(web, 6, 5), 433)
        self.assertEqual(worst(web, 6, 1), (0, 0, 12, 17, 79, 4, 0))
        self.assertEqual(bound_by(web, 6, 1, [7, 10, 2, 1, 1, 1, 90]), 7 * 2 + 10 * 7 + 2 * 12 + 5 + 9 + 4)
        self.assertEqual(bound_by(web, 6, 4, [7, 10, 2, 1, 1, 1, 90]), 270 + 7 * 2 + 10 * 7 + 2 * 12 + 5 + 9 + 4)

    def test_on_one_place(self):
        web = made(ALONE)
        self.assertEqual(least_weights(web, 0), [1])
        for wanted in WANTED:
            self.assertEqual(enough(web, 0, wanted), wanted)
            self.assertEqual(worst(web, 0, wanted), (wanted - 1,))
            self.assertEqual(hardest(web, wanted), (wanted, 0))

    def test_the_toll_is_that_towards_the_place(self):
        web = made(PAIR)
        self.assertEqual(enough(web, 0, 7), 14)
        self.assertEqual(enough(web, 1, 7), 7 * 10 ** 6)
        self.assertEqual(worst(web, 0, 7), (0, 13))
        self.assertEqual(worst(web, 1, 7), (7 * 10 ** 6 - 1, 0))
        self.assertEqual(hardest(web, 7), (7 * 10 ** 6, 1))

    def test_weighed(self):
        self.assertEqual(weighed([195, 65, 13, 1], (1, 2, 3, 4)), 195 + 130 + 39 + 4)
        self.assertEqual(weighed((2, 1), [5, 0]), 10)
        self.assertEqual(weighed([1], (0,)), 0)
        self.assertEqual(weighed([BIG, 3], (BIG, BIG - 1)), BIG * BIG + 3 * BIG - 3)


class WeightsThatStand(unittest.TestCase):
    def test_the_least_weights(self):
        for sample, web, r in seen():
            weights = least_weights(web, r)
            self.assertIs(weights_stand(web, r, weights), True)
            self.assertIs(weights_stand(web, r, tuple(weights)), True)

    def test_one_number_one_less(self):
        for sample, web, r in seen():
            weights = least_weights(web, r)
            for place in range(web.many):
                self.assertIs(weights_stand(web, r, changed(weights, place, weights[place] - 1)), False)

    def test_one_number_0_or_below_0(self):
        for sample, web, r in seen():
            weights = least_weights(web, r)
            for place in range(web.many):
                for number in (0, -1, -2, -weights[place], -BIG):
                    self.assertIs(weights_stand(web, r, changed(weights, place, number)), False)
            self.assertIs(weights_stand(web, r, [0] * web.many), False)
            self.assertIs(weights_stand(web, r, [-number for number in weights]), False)

    def test_one_number_raised(self):
        for sample, web, r in seen():
            weights = least_weights(web, r)
            fronts = samples.slow_ahead(sample, r)
            for place in range(web.many):
                raised = changed(weights, place, weights[place] + 1)
                room = True
                if place != r:
                    room = raised[place] * tolls(sample)[(place, fronts[place])] <= weights[fronts[place]]
                self.assertIs(weights_stand(web, r, raised), room)

    def test_too_short_too_long_and_empty(self):
        for sample, web, r in seen():
            weights = least_weights(web, r)
            for wrong in ([], weights[1:], weights[:-1], weights + [1], [weights[0]] + weights, weights + weights):
                self.assertIs(weights_stand(web, r, wrong), False)
                self.assertIs(weights_stand(web, r, tuple(wrong)), False)

    def test_many_figures(self):
        for sample, web, r in seen():
            weights = [number * BIG for number in least_weights(web, r)]
            self.assertIs(weights_stand(web, r, weights), True)
            self.assertIs(weights_stand(web, r, changed(weights, r, BIG * 10 ** 200)), True)
            if web.many > 1:
                self.assertIs(weights_stand(web, r, changed(weights, r, weights[r] - 1)), False)

    def test_they_stand_for_one_place_and_not_for_another(self):
        web = made(PAIR)
        self.assertIs(weights_stand(web, 0, [2, 1]), True)
        self.assertIs(weights_stand(web, 1, [2, 1]), False)
        self.assertIs(weights_stand(web, 0, [1, 10 ** 6]), False)
        self.assertIs(weights_stand(web, 1, [1, 10 ** 6]), True)

    def test_every_small_list(self):
        for sample in cheap_webs(3):
            web = made(sample)
            for r in range(web.many):
                fronts = samples.slow_ahead(sample, r)
                known = [(v, f, tolls(sample)[(v, f)]) for v, f in enumerate(fronts) if f is not None]
                for weights in small_lists(web.many, 8):
                    right = min(weights) >= 1 and all(weights[f] >= weights[v] * up for v, f, up in known)
                    self.assertIs(weights_stand(web, r, list(weights)), right)


class Bounds(unittest.TestCase):
    def test_against_the_words_of_the_point(self):
        for sample, web, r in seen():
            fronts = samples.slow_ahead(sample, r)
            least = least_weights(web, r)
            for turn, wanted in enumerate(WANTED):
                weights = [number * 3 ** turn for number in least]
                weights[r] += turn
                bound = weights[r] * (wanted - 1)
                for place in range(web.many):
                    if place != r:
                        bound += weights[place] * (tolls(sample)[(place, fronts[place])] - 1)
                self.assertEqual(bound_by(web, r, wanted, weights), bound)
                self.assertEqual(bound_by(web, r, wanted, tuple(weights)), bound)

    def test_no_laying_with_a_lesser_most_weighs_more(self):
        for sample in cheap_webs(3):
            web = made(sample)
            for r in range(web.many):
                least = least_weights(web, r)
                some = [least, [3 * number for number in least], changed(least, r, least[r] + 5)]
                bounds = [[bound_by(web, r, wanted, weights) for wanted in range(1, 8)] for weights in some]
                for laying in small_lists(web.many, 9):
                    found = most(web, laying, r)
                    for weights, row in zip(some, bounds):
                        for wanted in range(found + 1, 8):
                            self.assertLessEqual(weighed(weights, laying), row[wanted - 1])

    def test_a_worst_laying_weighs_just_the_bound_of_the_least_weights(self):
        for sample, web, r in seen():
            weights = least_weights(web, r)
            for wanted in WANTED:
                self.assertEqual(weighed(weights, worst(web, r, wanted)), bound_by(web, r, wanted, weights))

    def test_the_bound_and_1_of_any_weights_are_enough(self):
        for sample, web, r in seen():
            weights = least_weights(web, r)
            for more in (weights, [2 * number for number in weights], changed(weights, r, weights[r] + 1)):
                self.assertGreaterEqual(bound_by(web, r, 5, more) + 1, enough(web, r, 5))


class LeastWeights(unittest.TestCase):
    def test_against_the_prices_of_the_ways(self):
        for sample, web, r in seen():
            told = least_weights(web, r)
            self.assertIs(type(told), list)
            self.assertEqual(told, samples.slow_weights(sample, r))

    def test_no_weights_that_stand_have_a_lesser_number(self):
        for sample in cheap_webs(3):
            web = made(sample)
            for r in range(web.many):
                standing = [some for some in small_lists(web.many, 9) if weights_stand(web, r, some)]
                self.assertTrue(standing)
                least = [min(some[place] for some in standing) for place in range(web.many)]
                self.assertEqual(least_weights(web, r), least)


class AllLayingsTried(unittest.TestCase):
    def check(self, sample, r, wanted):
        web = made(sample)
        find = samples.most_finder(sample, r)
        told = enough(web, r, wanted)
        fewest = min(find(laying) for laying in parts(told, web.many))
        self.assertEqual(fewest, wanted)
        failing = [laying for laying in parts(told - 1, web.many) if find(laying) < wanted]
        self.assertIn(worst(web, r, wanted), failing)

    def test_cheap_webs_seen_from_every_place(self):
        for sample in cheap_webs(4):
            web = made(sample)
            for r in range(web.many):
                for wanted in (1, 2, 3, 4):
                    if enough(web, r, wanted) <= (99, 99, 60, 28)[web.many - 1]:
                        self.check(sample, r, wanted)

    def test_even_webs(self):
        for sample, greatest in ((EVEN_ROW, 40), (EVEN_STAR, 30), (EVEN_BRANCHED, 14)):
            for r in range(sample[0]):
                for wanted in (1, 2, 3, 4):
                    if enough(made(sample), r, wanted) <= greatest:
                        self.check(sample, r, wanted)

    def test_more_pebbles_are_enough_as_well(self):
        for sample in cheap_webs(3):
            web = made(sample)
            for r in range(web.many):
                find = samples.most_finder(sample, r)
                told = enough(web, r, 2)
                for more in range(1, 4):
                    self.assertGreaterEqual(min(find(laying) for laying in parts(told + more, web.many)), 2)


class Enough(unittest.TestCase):
    def test_the_bound_of_the_least_weights_and_1(self):
        for sample, web, r in seen():
            for wanted in WANTED:
                told = enough(web, r, wanted)
                self.assertIs(type(told), int)
                self.assertEqual(told, bound_by(web, r, wanted, least_weights(web, r)) + 1)

    def test_piles_that_just_do(self):
        for sample, web, r in seen():
            for wanted in (1, 7, BIG):
                told = enough(web, r, wanted)
                for place in range(web.many):
                    self.assertGreaterEqual(told, wanted * samples.slow_price(sample, place, r))

    def test_worst_layings(self):
        for sample, web, r in seen():
            for wanted in WANTED:
                told = worst(web, r, wanted)
                self.assertIs(type(told), tuple)
                self.assertEqual(len(told), web.many)
                self.assertGreaterEqual(min(told), 0)
                self.assertEqual(sum(told), enough(web, r, wanted) - 1)
                self.assertLess(most(web, told, r), wanted)

    def test_a_pebble_more_anywhere_and_the_wanted_ones_come(self):
        for sample, web, r in seen():
            if web.many <= 7:
                for wanted in (1, 3, BIG):
                    told = list(worst(web, r, wanted))
                    for place in range(web.many):
                        self.assertEqual(most(web, changed(told, place, told[place] + 1), r), wanted)


class Hardest(unittest.TestCase):
    def test_the_greatest_and_the_least_place_of_several(self):
        for sample in list(all_webs()) + list(EVEN):
            web = made(sample)
            for wanted in WANTED:
                told = hardest(web, wanted)
                self.assertIs(type(told), tuple)
                numbers = [enough(web, r, wanted) for r in range(web.many)]
                self.assertEqual(told, (max(numbers), numbers.index(max(numbers))))

    def test_several_alike(self):
        self.assertEqual(hardest(made(EVEN_ROW), 1), (4, 1))
        self.assertEqual(hardest(made(EVEN_ROW), 3), (12, 1))
        self.assertEqual(hardest(made(EVEN_STAR), 1), (5, 1))
        self.assertEqual(hardest(samples.Web(2, [(0, 1, 5, 5)]), 4), (20, 0))
        self.assertEqual(hardest(samples.Web(3, [(0, 2, 2, 2), (2, 1, 2, 2)]), 1), (4, 0))

    def test_the_place_hangs_on_wanted(self):
        web = samples.Web(4, [(1, 0, 7, 2), (2, 0, 3, 2), (3, 0, 9, 3)])
        # From 2 the dearest way costs 18 and 6 pebbles are idle, from 3 it costs 21 and 2 are idle.
        self.assertEqual(hardest(web, 1), (24, 2))
        self.assertEqual(hardest(web, 2), (44, 3))


class Refusals(unittest.TestCase):
    def asks(self, web, r, wanted):
        yield lambda: bound_by(web, r, wanted, [1] * web.many)
        yield lambda: enough(web, r, wanted)
        yield lambda: worst(web, r, wanted)

    def test_no_place_goes_first(self):
        for sample in NAMED:
            web = made(sample)
            for wrong in wrong_places(web.many):
                for weights in ([1] * web.many, [], [0]):
                    self.assertRaises(NoPlace, weights_stand, web, wrong, weights)
                self.assertRaises(NoPlace, least_weights, web, wrong)
                for wanted in (1, BIG) + NOT_WANTED:
                    for ask in self.asks(web, wrong, wanted):
                        self.assertRaises(NoPlace, ask)

    def test_then_bad_wish(self):
        for sample in NAMED:
            web = made(sample)
            for wanted in NOT_WANTED:
                for r in range(web.many):
                    for ask in self.asks(web, r, wanted):
                        self.assertRaises(BadWish, ask)
                self.assertRaises(BadWish, hardest, web, wanted)


class ArgumentsByName(unittest.TestCase):
    def test_names(self):
        web = made(PAIR)
        self.assertIs(weights_stand(web=web, r=0, weights=[2, 1]), True)
        self.assertEqual(weighed(weights=[2, 1], laying=(3, 4)), 10)
        self.assertEqual(bound_by(web=web, r=0, wanted=2, weights=[2, 1]), 3)
        self.assertEqual(least_weights(web=web, r=0), [2, 1])
        self.assertEqual(enough(web=web, r=0, wanted=2), 4)
        self.assertEqual(worst(web=web, r=0, wanted=2), (0, 3))
        self.assertEqual(hardest(web=web, wanted=2), (2 * 10 ** 6, 1))


if __name__ == "__main__":
    unittest.main()
