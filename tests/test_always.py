"""Stage 7: always enough for a wish."""

import unittest

import samples
from samples import (
    ALONE, BRANCHED, EVEN, EVEN_BRANCHED, EVEN_ROW, EVEN_STAR, EVEN_TWICE, HUGE, NAMED, PAIR, ROW, STAR, cheap_webs,
    made, mixed_lists, parts, small_lists, small_webs, wrong_lists, wrong_places,
)

from pebbletoll.always import always, failing, fails, pile_need
from pebbletoll.enough import enough
from pebbletoll.errors import BadWish, NoPlace, NoWorst
from pebbletoll.layings import pile, put
from pebbletoll.wishes import is_met

BIG = 10 ** 399


def wishes(many):
    """Wishes of every size: for one place, for some and for every place."""
    for number in (1, 2, 10 ** 6, 10 ** 400 - 1):
        for place in {0, many // 2, many - 1}:
            yield [number if v == place else 0 for v in range(many)]
    for greatest in (1, 4, 10 ** 60, 10 ** 400 - 1):
        yield from mixed_lists(many, greatest, 3)
        for some in mixed_lists(many, greatest, 2):
            yield [number + 1 for number in some]
    yield [1] * many
    yield [BIG if v < 3 else 0 for v in range(many)]


def cases():
    """Webs with wishes that are not noughts alone."""
    for sample in NAMED + EVEN:
        for wish in wishes(sample[0]):
            if any(wish):
                yield sample, made(sample), wish


def wanted_at(wish):
    return [place for place, number in enumerate(wish) if number > 0]


class ByHand(unittest.TestCase):
    def test_pile_needs(self):
        web = made(ROW)
        wish = (1, 0, 2, 1)
        self.assertEqual(pile_need(web, wish, 0), 1 + 2 * 14 + 154)
        self.assertEqual(pile_need(web, wish, 1), 3 + 2 * 7 + 77)
        self.assertEqual(pile_need(web, wish, 2), 15 + 2 + 11)
        self.assertEqual(pile_need(web, wish, 3), 195 + 2 * 13 + 1)
        self.assertEqual(pile_need(web, (0, 0, 0, 0), 2), 0)
        self.assertEqual(pile_need(made(ALONE), (9,), 0), 9)

    def test_on_a_pair(self):
        web = made(PAIR)
        self.assertEqual(always(web, (1, 0)), 2)
        self.assertEqual(fails(web, (1, 0)), (0, 1))
        self.assertEqual(always(web, (0, 1)), 10 ** 6)
        self.assertEqual(fails(web, (0, 1)), (10 ** 6 - 1, 0))
        self.assertEqual(always(web, (1, 1)), 10 ** 6 + 1)
        self.assertEqual(fails(web, (1, 1)), (10 ** 6, 0))
        self.assertEqual(always(web, (10 ** 7, 1)), 2 * 10 ** 7 + 1)
        self.assertEqual(fails(web, (10 ** 7, 1)), (0, 2 * 10 ** 7))

    def test_both_ends_of_a_row(self):
        web = made(ROW)
        self.assertEqual(always(web, (1, 0, 0, 1)), 196)
        self.assertEqual(fails(web, (1, 0, 0, 1)), (0, 0, 0, 195))
        self.assertEqual(always(web, (0, 0, 0, 1)), 154)
        self.assertEqual(fails(web, (0, 0, 0, 1)), (153, 0, 0, 0))

    def test_idle_pebbles_on_a_star(self):
        web = made(STAR)
        # At 1 lie 12 and at 4 lie 4 that nobody can use; of the 50 at 3, two come to 2, and three are needed there.
        self.assertEqual(always(web, (1, 0, 1, 0, 0)), 67)
        self.assertEqual(fails(web, (1, 0, 1, 0, 0)), (0, 12, 0, 50, 4))

    def test_idle_pebbles_beyond_a_place_that_needs(self):
        web = made(BRANCHED)
        wish = (1, 0, 0, 0, 0, 0, 1)
        # Needed at 6 are 1 and 2 for 0; idle are 4 at 5 and 5 at 3, 12 at 2; from 4 through 1 come two of three.
        self.assertEqual(fails(web, wish), (0, 0, 12, 5, 239, 4, 0))
        self.assertEqual(always(web, wish), 12 + 5 + 239 + 4 + 1)

    def test_on_one_place(self):
        web = made(ALONE)
        self.assertEqual(always(web, (0,)), 0)
        for wanted in (1, 2, HUGE, BIG):
            self.assertEqual(always(web, (wanted,)), wanted)
            self.assertEqual(fails(web, [wanted]), (wanted - 1,))


class PileNeeds(unittest.TestCase):
    def test_against_the_prices_of_the_ways(self):
        for sample, web, wish in cases():
            for v in {0, web.many // 3, web.many - 1}:
                found = sum(wish[u] * samples.slow_price(sample, v, u) for u in range(web.many))
                told = pile_need(web, wish, v)
                self.assertEqual(told, found)
                self.assertIs(type(told), int)
                self.assertEqual(pile_need(web, tuple(wish), v), found)

    def test_the_least_pile_that_meets_the_wish(self):
        for sample, web, wish in cases():
            for v in range(web.many):
                told = pile_need(web, wish, v)
                self.assertIs(is_met(web, pile(web, v, told), wish), True)
                self.assertIs(is_met(web, pile(web, v, told - 1), wish), False)

    def test_all_piles_tried_by_all_steps(self):
        for sample in cheap_webs(3):
            web = made(sample)
            for wish in small_lists(web.many, 1):
                for v in range(web.many):
                    many = 0
                    while not can_cover(sample, pile(web, v, many), wish):
                        many += 1
                    self.assertEqual(pile_need(web, wish, v), many)

    def test_noughts_alone(self):
        for sample in NAMED + EVEN:
            for v in range(sample[0]):
                self.assertEqual(pile_need(made(sample), [0] * sample[0], v), 0)


def can_cover(sample, laying, wish):
    reached = samples.slow_reached(sample, laying)
    return any(all(has >= wants for has, wants in zip(found, wish)) for found in reached)


class AllLayingsTried(unittest.TestCase):
    def check(self, sample, wish, greatest):
        web = made(sample)
        told = always(web, wish)
        if told <= greatest:
            find = samples.met_finder(sample, wish, wanted_at(wish)[-1])
            self.assertTrue(all(find(laying) for laying in parts(told, web.many)))
            failing_ones = [laying for laying in parts(told - 1, web.many) if not find(laying)]
            self.assertIn(fails(web, wish), failing_ones)
        return told <= greatest

    def test_cheap_webs(self):
        count = 0
        for sample in cheap_webs(4):
            many = sample[0]
            for wish in small_lists(many, (9, 6, 3, 1)[many - 1]):
                if any(wish):
                    count += self.check(sample, wish, (99, 99, 50, 32)[many - 1])
        self.assertGreater(count, 400)

    def test_greater_wishes_on_cheap_webs(self):
        count = 0
        for turn, sample in enumerate(cheap_webs(4)):
            if sample[0] == 4:
                for wish in small_lists(4, 2)[1 + turn % 4::4]:
                    count += self.check(sample, wish, 32)
        self.assertGreater(count, 200)

    def test_even_webs(self):
        for sample, most, greatest in ((EVEN_ROW, 3, 30), (EVEN_STAR, 2, 20), (EVEN_BRANCHED, 1, 12)):
            for wish in small_lists(sample[0], most):
                if any(wish):
                    self.check(sample, wish, greatest)

    def test_by_all_steps(self):
        for sample in cheap_webs(3):
            web = made(sample)
            for wish in small_lists(web.many, 1):
                told = always(web, wish)
                if told <= 9:
                    self.assertTrue(all(can_cover(sample, laying, wish) for laying in parts(told, web.many)))
                    if any(wish):
                        self.assertFalse(can_cover(sample, fails(web, wish), wish))
                        self.assertEqual(sum(fails(web, wish)), told - 1)


class AllLoadsTried(unittest.TestCase):
    def check(self, sample, wish, greatest):
        web = made(sample)
        if not any(wish) or always(web, wish) > greatest:
            return 0
        r = wanted_at(wish)[-1]
        found = samples.slow_loads(sample, wish, r, r, -1)
        self.assertEqual(always(web, wish), max(found.values()) + 1)
        return 1

    def test_small_webs_of_greater_tolls(self):
        count = 0
        for turn, sample in enumerate(small_webs()):
            step = (1, 1, 1, 5, 29)[sample[0] - 1]
            for wish in small_lists(sample[0], (9, 6, 3, 3, 2)[sample[0] - 1])[turn % step::step]:
                count += self.check(sample, wish, 1500)
        self.assertGreater(count, 800)

    def test_even_webs(self):
        count = 0
        for sample in (EVEN_ROW, EVEN_STAR, EVEN_BRANCHED, EVEN_TWICE):
            for wish in mixed_lists(sample[0], 3, 25):
                count += self.check(sample, wish, 600)
        self.assertGreater(count, 80)


class Always(unittest.TestCase):
    def test_noughts_alone(self):
        for sample in NAMED + EVEN:
            self.assertEqual(always(made(sample), [0] * sample[0]), 0)
            self.assertEqual(always(made(sample), (0,) * sample[0]), 0)

    def test_one_place(self):
        for sample in NAMED + EVEN:
            web = made(sample)
            for r in range(web.many):
                for wanted in (1, 2, 7, HUGE, BIG):
                    wish = pile(web, r, wanted)
                    self.assertEqual(always(web, wish), enough(web, r, wanted))

    def test_every_place(self):
        for sample, web, wish in cases():
            if min(wish) > 0:
                needs = [pile_need(web, wish, v) for v in range(web.many)]
                self.assertEqual(always(web, wish), max(needs))

    def test_no_fewer_than_the_greatest_pile_need(self):
        more = 0
        for sample, web, wish in cases():
            needs = [pile_need(web, wish, v) for v in range(web.many)]
            self.assertGreaterEqual(always(web, wish), max(needs))
            more += always(web, wish) > max(needs)
        self.assertGreater(more, 20)

    def test_against_the_words_of_the_point(self):
        for sample, web, wish in cases():
            told = always(web, wish)
            self.assertIs(type(told), int)
            r = wanted_at(wish)[sum(wish) % len(wanted_at(wish))]
            self.assertEqual(told, samples.slow_failing_many(sample, wish, r) + 1)
            self.assertEqual(always(web, tuple(wish)), told)

    def test_it_does_not_hang_on_the_place_it_is_seen_from(self):
        for sample, web, wish in cases():
            for r in wanted_at(wish):
                found = failing(web, wish, r)
                self.assertEqual(sum(found), always(web, wish) - 1)
                self.assertIs(is_met(web, found, wish), False)


class Fails(unittest.TestCase):
    def test_one_fewer_and_the_wish_is_not_met(self):
        for sample, web, wish in cases():
            told = fails(web, wish)
            self.assertIs(type(told), tuple)
            self.assertEqual(len(told), web.many)
            self.assertGreaterEqual(min(told), 0)
            self.assertEqual(sum(told), always(web, wish) - 1)
            self.assertIs(is_met(web, told, wish), False)
            self.assertEqual(fails(web, tuple(wish)), told)

    def test_a_pebble_more_anywhere_meets_it(self):
        for sample, web, wish in cases():
            told = fails(web, wish)
            for place in range(web.many):
                self.assertIs(is_met(web, put(web, told, place, 1), wish), True)


class Refusals(unittest.TestCase):
    def test_bad_wish_goes_first(self):
        for sample in NAMED:
            web = made(sample)
            for wrong in wrong_lists(web.many):
                for v in (0, web.many - 1, -1, web.many, HUGE):
                    self.assertRaises(BadWish, pile_need, web, wrong, v)
                self.assertRaises(BadWish, always, web, wrong)
                self.assertRaises(BadWish, fails, web, wrong)

    def test_wrong_lists_of_noughts(self):
        for sample in NAMED:
            web = made(sample)
            for wrong in ([0] * (web.many + 1), [0] * (web.many - 1)):
                for ask in (always, fails):
                    self.assertRaises(BadWish, ask, web, wrong)
            if web.many > 1:
                self.assertRaises(BadWish, always, web, [1, -1] + [0] * (web.many - 2))
                self.assertRaises(BadWish, fails, web, [1, -1] + [0] * (web.many - 2))

    def test_then_no_place(self):
        for sample in NAMED:
            web = made(sample)
            for wrong in wrong_places(web.many):
                for number in (0, 1, BIG):
                    self.assertRaises(NoPlace, pile_need, web, [number] * web.many, wrong)

    def test_no_worst_for_noughts_alone(self):
        for sample in NAMED + EVEN:
            web = made(sample)
            self.assertRaises(NoWorst, fails, web, [0] * web.many)
            self.assertRaises(NoWorst, fails, web, (0,) * web.many)


class ArgumentsByName(unittest.TestCase):
    def test_names(self):
        web = made(PAIR)
        self.assertEqual(pile_need(web=web, wish=(3, 1), v=1), 7)
        self.assertEqual(always(web=web, wish=(3, 0)), 6)
        self.assertEqual(fails(web=web, wish=(3, 0)), (0, 5))


if __name__ == "__main__":
    unittest.main()
