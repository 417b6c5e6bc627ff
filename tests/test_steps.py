"""Stage 3: steps."""

import unittest

from samples import (
    ALONE, BRANCHED, HUGE, NAMED, PAIR, ROW, STAR, cheap_webs, made, mixed_lists, small_lists, tolls, wrong_lists,
)

from pebbletoll.errors import BadLaying, BadStep
from pebbletoll.steps import layings, spent, walked

BIG = 10 ** 399


def slow_walked(sample, laying, steps):
    """The layings on the way, or how many steps were done ahead of the first that can not be done."""
    known = tolls(sample)
    counts = list(laying)
    passed = [tuple(counts)]
    for at, (a, b, times) in enumerate(steps):
        if (a, b) not in known or times < 1 or counts[a] < times * known[(a, b)]:
            return at
        counts[a] -= times * known[(a, b)]
        counts[b] += times
        passed.append(tuple(counts))
    return passed


def wrong_steps(sample, laying):
    """Steps that can not be done where the laying lies."""
    many = sample[0]
    known = tolls(sample)
    for a in range(many):
        for b in range(many):
            if (a, b) not in known:
                yield (a, b, 1)
                yield (a, b, 0)
            else:
                yield (a, b, 0)
                yield (a, b, -1)
                yield (a, b, -BIG)
                yield (a, b, laying[a] // known[(a, b)] + 1)
                yield (a, b, BIG)
    for a in (-1, -many, many, many + 1, HUGE, -HUGE, 10 ** 5000):
        yield (a, 0, 1)
        yield (0, a, 1)
        yield (a, a, 1)
        yield (many - 1, a, 1)
        yield (a, many - 1, 0)


class StepsByHand(unittest.TestCase):
    def test_there_and_back(self):
        web = made(ROW)
        steps = [(0, 1, 10), (1, 2, 1), (1, 0, 1)]
        passed = [(20, 0, 0, 0), (0, 10, 0, 0), (0, 3, 1, 0), (1, 0, 1, 0)]
        self.assertEqual(layings(web, (20, 0, 0, 0), steps), passed)
        self.assertEqual(walked(web, (20, 0, 0, 0), steps), (1, 0, 1, 0))
        self.assertEqual(spent(web, steps), 10 * 1 + 6 + 2)

    def test_each_direction_has_its_own_toll(self):
        web = made(PAIR)
        self.assertEqual(walked(web, (10 ** 6, 0), [(0, 1, 1)]), (0, 1))
        self.assertEqual(walked(web, (0, 2), [(1, 0, 1)]), (1, 0))
        self.assertEqual(spent(web, [(0, 1, 1)]), 10 ** 6 - 1)
        self.assertEqual(spent(web, [(1, 0, 1)]), 1)

    def test_on_a_star(self):
        web = made(STAR)
        steps = [(4, 2, 2), (0, 2, 1), (3, 2, 1), (2, 0, 2)]
        passed = [(3, 0, 1, 17, 11), (3, 0, 3, 17, 1), (0, 0, 4, 17, 1), (0, 0, 5, 0, 1), (2, 0, 1, 0, 1)]
        self.assertEqual(layings(web, [3, 0, 1, 17, 11], steps), passed)
        self.assertEqual(spent(web, steps), 8 + 2 + 16 + 2)

    def test_no_step(self):
        for sample in NAMED:
            web = made(sample)
            laying = tuple(range(web.many))
            self.assertEqual(walked(web, laying, []), laying)
            self.assertEqual(layings(web, laying, []), [laying])
            self.assertEqual(layings(web, list(laying), ()), [laying])
            self.assertEqual(spent(web, []), 0)

    def test_all_pebbles_of_a_place_and_one_too_few(self):
        for sample in NAMED:
            web = made(sample)
            for (a, b), number in tolls(sample).items():
                for times in (1, 2, 7, BIG):
                    laying = [4] * web.many
                    laying[a] = times * number
                    left = list(laying)
                    left[a] = 0
                    left[b] = 4 + times
                    self.assertEqual(walked(web, laying, [(a, b, times)]), tuple(left))
                    self.assertEqual(spent(web, [(a, b, times)]), times * number - times)
                    laying[a] -= 1
                    with self.assertRaises(BadStep) as caught:
                        walked(web, laying, [(a, b, times)])
                    self.assertEqual(caught.exception.at, 0)

    def test_numbers_of_400_figures(self):
        web = made(PAIR)
        many = 10 ** 400 - 1
        self.assertEqual(walked(web, (0, many), [(1, 0, many // 2)]), (many // 2, 1))
        with self.assertRaises(BadStep):
            walked(web, (0, many), [(1, 0, many)])
        self.assertEqual(spent(web, [(0, 1, many)]), many * (10 ** 6 - 1))

    def test_pebbles_may_be_at_hand_only_by_then(self):
        web = made(ROW)
        self.assertEqual(walked(web, (14, 0, 0, 0), [(0, 1, 7), (1, 2, 1)]), (0, 0, 1, 0))
        for steps in ([(1, 2, 1), (0, 1, 7)], [(1, 2, 1)]):
            with self.assertRaises(BadStep) as caught:
                walked(web, (14, 0, 0, 0), steps)
            self.assertEqual(caught.exception.at, 0)


class AgainstTheSlowWay(unittest.TestCase):
    def test_every_two_steps_on_cheap_webs(self):
        for sample in cheap_webs(3):
            web = made(sample)
            places = range(-1, web.many + 1)
            moves = [(a, b, times) for a in places for b in places for times in (0, 1, 2)]
            for laying in small_lists(web.many, 4)[::3]:
                for first in moves:
                    self.check(sample, web, laying, [first, moves[sum(laying)], first])

    def test_steps_there_and_back_on_named_webs(self):
        for sample in NAMED:
            web = made(sample)
            for laying in mixed_lists(web.many, 10 ** 9, 5):
                for a, b in tolls(sample):
                    self.check(sample, web, laying, [(a, b, 3), (b, a, 1), (a, b, 2), (b, a, 1)])

    def check(self, sample, web, laying, steps):
        wanted = slow_walked(sample, laying, steps)
        if isinstance(wanted, list):
            told = layings(web, laying, steps)
            self.assertEqual(told, wanted)
            self.assertEqual(walked(web, laying, steps), wanted[-1])
            self.assertEqual(spent(web, steps), sum(wanted[0]) - sum(wanted[-1]))
            self.assertIs(type(told), list)
            self.assertEqual({type(one) for one in told}, {tuple})
            self.assertIs(type(walked(web, laying, steps)), tuple)
        else:
            for ask in (layings, walked):
                with self.assertRaises(BadStep) as caught:
                    ask(web, laying, steps)
                self.assertEqual(caught.exception.at, wanted)


class Refusals(unittest.TestCase):
    def test_each_wrong_step_at_each_number(self):
        for sample in (ROW, STAR, BRANCHED, PAIR):
            web = made(sample)
            good = [(a, b, 1) for a, b in tolls(sample)]
            laying = [2 * 10 ** 6] * web.many
            passed = layings(web, laying, good)
            for at in range(len(good) + 1):
                for wrong in wrong_steps(sample, passed[at]):
                    steps = good[:at] + [wrong] + good[at:]
                    for ask in (layings, walked):
                        with self.assertRaises(BadStep) as caught:
                            ask(web, laying, steps)
                        self.assertEqual(caught.exception.at, at)

    def test_the_first_of_several_wrong_ones(self):
        web = made(ROW)
        for wrong in wrong_steps(ROW, (3, 9, 0, 0)):
            with self.assertRaises(BadStep) as caught:
                walked(web, (5, 8, 0, 0), [(0, 1, 1), wrong, (3, 3, 3), (9, 9, 9)])
            self.assertEqual(caught.exception.at, 1)

    def test_a_web_of_one_place_has_no_step(self):
        web = made(ALONE)
        for step in ((0, 0, 1), (0, 1, 1), (1, 0, 1), (0, -1, 1), (-1, 0, 1)):
            with self.assertRaises(BadStep):
                walked(web, (9,), [step])

    def test_bad_laying_goes_ahead_of_bad_step(self):
        for sample in NAMED:
            web = made(sample)
            for wrong in wrong_lists(web.many):
                for steps in ([], [(0, 0, 0)], [(HUGE, -1, 1)]):
                    for ask in (layings, walked):
                        with self.assertRaises(BadLaying):
                            ask(web, wrong, steps)

    def test_a_place_below_nought_does_not_count_from_the_end(self):
        web = made(ROW)
        for step in ((0, -3, 1), (-4, 1, 1), (-1, 2, 1), (-1, -2, 1)):
            with self.assertRaises(BadStep):
                walked(web, (99, 99, 99, 99), [step])


class HandedIn(unittest.TestCase):
    def test_steps_that_are_changed_behind(self):
        web = made(ROW)
        laying = [20, 0, 0, 0]
        steps = [(0, 1, 10), (1, 0, 1)]
        told = layings(web, laying, steps)
        last = walked(web, laying, steps)
        many = spent(web, steps)
        self.assertEqual((laying, steps), ([20, 0, 0, 0], [(0, 1, 10), (1, 0, 1)]))
        steps[0] = (1, 2, 9)
        steps.clear()
        laying[0] = 7
        self.assertEqual(told, [(20, 0, 0, 0), (0, 10, 0, 0), (1, 7, 0, 0)])
        self.assertEqual((last, many), ((1, 7, 0, 0), 12))

    def test_tuples_do_as_well_as_lists(self):
        web = made(ROW)
        steps = ((0, 1, 10), (1, 0, 1))
        self.assertEqual(layings(web, (20, 0, 0, 0), steps), layings(web, [20, 0, 0, 0], list(steps)))
        self.assertEqual(walked(web, (20, 0, 0, 0), steps), (1, 7, 0, 0))
        self.assertEqual(spent(web, steps), 12)

    def test_arguments_by_name(self):
        web = made(PAIR)
        self.assertEqual(walked(web=web, laying=(0, 2), steps=[(1, 0, 1)]), (1, 0))
        self.assertEqual(layings(web=web, laying=(0, 2), steps=[(1, 0, 1)]), [(0, 2), (1, 0)])
        self.assertEqual(spent(web=web, steps=[(1, 0, 1)]), 1)


if __name__ == "__main__":
    unittest.main()
