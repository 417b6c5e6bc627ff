"""Stage 4: bringing."""

import unittest

import samples
from samples import (
    ALONE, BRANCHED, HUGE, NAMED, PAIR, ROW, STAR, cheap_webs, made, mixed_lists, small_lists, wrong_lists,
    wrong_places,
)

from pebbletoll.bringing import bring, gathered, most, shows_most
from pebbletoll.errors import BadLaying, NoPlace
from pebbletoll.steps import walked
from pebbletoll.ways import ahead

BIG = 10 ** 399


def cases():
    """Webs with layings of every size, each of them seen from every place."""
    for sample in NAMED:
        for greatest in (3, 40, 10 ** 7, 10 ** 60, 10 ** 400 - 1):
            for laying in mixed_lists(sample[0], greatest, 3):
                yield sample, laying


class ByHand(unittest.TestCase):
    def test_on_a_row(self):
        web = made(ROW)
        laying = (5, 8, 6, 27)
        self.assertEqual(gathered(web, laying, 0), [5 + 9 // 3, 8 + 8 // 5, 6 + 27 // 13, 27])
        self.assertEqual(gathered(web, laying, 3), [5, 10, 7, 27])
        self.assertEqual(gathered(web, laying, 1), [5, 8 + 2 + 1, 8, 27])
        self.assertEqual([most(web, laying, r) for r in range(4)], [8, 11, 9, 27])
        self.assertEqual(most(web, (154, 0, 0, 0), 3), 1)
        self.assertEqual(most(web, (153, 0, 0, 0), 3), 0)
        self.assertEqual(bring(web, (154, 0, 0, 0), 3), [(0, 1, 77), (1, 2, 11), (2, 3, 1)])

    def test_on_a_star(self):
        web = made(STAR)
        laying = (7, 12, 3, 34, 4)
        self.assertEqual(gathered(web, laying, 2), [7, 12, 3 + 2 + 0 + 2 + 0, 34, 4])
        self.assertEqual(gathered(web, laying, 0), [7 + 5 // 2, 12, 5, 34, 4])
        self.assertEqual(sorted(bring(web, laying, 2)), [(0, 2, 2), (3, 2, 2)])
        self.assertEqual(bring(web, laying, 0), [(3, 2, 2), (2, 0, 2)])

    def test_on_a_branched_web(self):
        web = made(BRANCHED)
        laying = (1, 0, 13, 6, 80, 9, 1)
        self.assertEqual(gathered(web, laying, 6), [1 + 1 + 1, 8, 13, 6, 80, 9, 1 + 1 + 1 + 1])
        self.assertEqual(most(web, laying, 6), 4)
        self.assertEqual(most(web, laying, 0), 1 + 1 + 1 + 3 // 2)

    def test_on_one_place(self):
        web = made(ALONE)
        self.assertEqual(gathered(web, (7,), 0), [7])
        self.assertEqual(most(web, (7,), 0), 7)
        self.assertEqual(bring(web, (7,), 0), [])

    def test_the_toll_is_that_towards_the_place(self):
        web = made(PAIR)
        self.assertEqual(most(web, (0, 10 ** 6), 0), 500000)
        self.assertEqual(most(web, (10 ** 6, 0), 1), 1)
        self.assertEqual(most(web, (10 ** 6 - 1, 0), 1), 0)

    def test_no_pebbles(self):
        for sample in NAMED:
            web = made(sample)
            for r in range(web.many):
                self.assertEqual(gathered(web, [0] * web.many, r), [0] * web.many)
                self.assertEqual(bring(web, [0] * web.many, r), [])


class AllStepsTried(unittest.TestCase):
    def check(self, sample, laying):
        web = made(sample)
        reached = samples.slow_reached(sample, laying)
        for r in range(web.many):
            self.assertEqual(most(web, laying, r), max(found[r] for found in reached))
            self.assertEqual(walked(web, laying, bring(web, laying, r))[r], most(web, laying, r))

    def test_every_small_laying(self):
        for sample in cheap_webs(4):
            for laying in small_lists(sample[0], (12, 12, 5, 2)[sample[0] - 1]):
                self.check(sample, laying)

    def test_greater_piles(self):
        for sample in cheap_webs(4):
            for place in range(sample[0]):
                for many in (7, 8, 9, 12, 13):
                    self.check(sample, [many if v == place else v % 2 for v in range(sample[0])])

    def test_no_step_makes_the_most_greater(self):
        for sample in cheap_webs(4):
            web = made(sample)
            for laying in small_lists(sample[0], (12, 12, 5, 2)[sample[0] - 1]):
                for found in samples.one_step_on(sample, laying):
                    for r in range(web.many):
                        self.assertLessEqual(most(web, found, r), most(web, laying, r))


class AgainstTheSlowWay(unittest.TestCase):
    def test_gathered_and_most(self):
        for sample, laying in cases():
            web = made(sample)
            for r in range(web.many):
                told = gathered(web, laying, r)
                self.assertIs(type(told), list)
                self.assertEqual(told, samples.slow_gathered(sample, laying, r))
                self.assertEqual(most(web, laying, r), told[r])
                self.assertIs(type(most(web, laying, r)), int)

    def test_a_laying_may_be_a_list_or_a_tuple(self):
        for sample, laying in cases():
            web = made(sample)
            for ask in (gathered, most, bring):
                self.assertEqual(ask(web, list(laying), 0), ask(web, tuple(laying), 0))


class StepsThatBring(unittest.TestCase):
    def test_they_leave_just_the_most(self):
        for sample, laying in cases():
            web = made(sample)
            for r in range(web.many):
                steps = bring(web, laying, r)
                self.assertIs(type(steps), list)
                self.assertEqual(walked(web, laying, steps)[r], most(web, laying, r))

    def test_each_is_towards_the_place_one_for_a_road_and_none_with_times_0(self):
        for sample, laying in cases():
            web = made(sample)
            for r in range(web.many):
                fronts = ahead(web, r)
                steps = bring(web, laying, r)
                for step in steps:
                    self.assertIs(type(step), tuple)
                    a, b, times = step
                    self.assertEqual(b, fronts[a])
                    self.assertGreaterEqual(times, 1)
                self.assertEqual(len({step[0] for step in steps}), len(steps))


class TablesThatShowTheMost(unittest.TestCase):
    def test_the_right_table(self):
        for sample, laying in cases():
            web = made(sample)
            for r in range(web.many):
                table = gathered(web, laying, r)
                self.assertIs(shows_most(web, laying, r, table), True)
                self.assertIs(shows_most(web, tuple(laying), r, tuple(table)), True)
                self.assertEqual(table, gathered(web, laying, r))

    def test_one_number_changed(self):
        for sample, laying in cases():
            web = made(sample)
            r = sum(laying) % web.many
            table = gathered(web, laying, r)
            for place in range(web.many):
                for change in (1, -1, BIG, -BIG, -2 * table[place] - 1):
                    wrong = list(table)
                    wrong[place] += change
                    self.assertIs(shows_most(web, laying, r, wrong), False)

    def test_a_kid_changed_with_all_ahead_of_it(self):
        web = made(PAIR)
        self.assertIs(shows_most(web, (3, 4), 0, [5, 4]), True)
        self.assertIs(shows_most(web, (3, 4), 0, [6, 6]), False)
        self.assertIs(shows_most(web, (3, 4), 0, [3, 0]), False)

    def test_too_short_and_too_long(self):
        for sample, laying in cases():
            web = made(sample)
            for r in range(web.many):
                table = gathered(web, laying, r)
                for wrong in ([], table[:-1], table[1:], table + [0], [0] + table, table + table):
                    self.assertIs(shows_most(web, laying, r, wrong), False)

    def test_small_tables_all_tried(self):
        for sample in cheap_webs(3):
            web = made(sample)
            for laying in small_lists(web.many, 2):
                for r in range(web.many):
                    right = [t for t in small_lists(web.many, 4) if shows_most(web, laying, r, list(t))]
                    self.assertEqual(right, [tuple(samples.slow_gathered(sample, laying, r))])

    def test_the_table_stays_as_it_was(self):
        table = [8, 9, 8, 27]
        laying = [5, 8, 6, 27]
        self.assertIs(shows_most(made(ROW), laying, 0, table), True)
        self.assertEqual((laying, table), ([5, 8, 6, 27], [8, 9, 8, 27]))


class Refusals(unittest.TestCase):
    def asks(self, web, laying, r):
        yield lambda: gathered(web, laying, r)
        yield lambda: most(web, laying, r)
        yield lambda: bring(web, laying, r)
        yield lambda: shows_most(web, laying, r, [0] * web.many)
        yield lambda: shows_most(web, laying, r, [])

    def test_bad_laying_goes_ahead(self):
        for sample in NAMED:
            web = made(sample)
            for wrong in wrong_lists(web.many):
                for r in (0, web.many - 1, -1, web.many, HUGE):
                    for ask in self.asks(web, wrong, r):
                        with self.assertRaises(BadLaying):
                            ask()

    def test_no_place(self):
        for sample in NAMED:
            web = made(sample)
            for wrong in wrong_places(web.many):
                for laying in ([0] * web.many, [BIG] * web.many):
                    for ask in self.asks(web, laying, wrong):
                        with self.assertRaises(NoPlace):
                            ask()


class ArgumentsByName(unittest.TestCase):
    def test_names(self):
        web = made(PAIR)
        self.assertEqual(gathered(web=web, laying=(1, 4), r=0), [3, 4])
        self.assertEqual(most(web=web, laying=(1, 4), r=0), 3)
        self.assertEqual(bring(web=web, laying=(1, 4), r=0), [(1, 0, 2)])
        self.assertIs(shows_most(web=web, laying=(1, 4), r=0, table=[3, 4]), True)


if __name__ == "__main__":
    unittest.main()
