"""Stage 5: wishes."""

import unittest

import samples
from samples import (
    ALONE, BRANCHED, HUGE, NAMED, PAIR, ROW, STAR, cheap_webs, made, mixed_lists, small_lists, wrong_lists,
    wrong_places,
)

from pebbletoll.errors import BadLaying, BadWish, NoPlace
from pebbletoll.layings import covers, put
from pebbletoll.steps import walked
from pebbletoll.wishes import is_met, judged, meeting, standing, standings

BIG = 10 ** 399
# How great the numbers of a laying and of a wish may be.
SIZES = ((5, 5), (60, 1), (1000, 3), (10 ** 9, 10 ** 3), (10 ** 400 - 1, 10 ** 390), (40, 10 ** 400 - 1))


def cases():
    """Webs with a laying and a wish each, some met and some not, of numbers of every size."""
    for sample in NAMED:
        many = sample[0]
        for has, wants in SIZES:
            wishes = list(mixed_lists(many, wants, 8))[4:]
            for laying, wish in zip(mixed_lists(many, has, 4), wishes):
                yield sample, laying, wish
        yield sample, [0] * many, [0] * many
        yield sample, [7] * many, [7] * many


def small_cases():
    """Cheap webs with layings and wishes for which all steps can be tried."""
    for sample in cheap_webs(4):
        many = sample[0]
        pairs = small_lists(2 * many, (12, 4, 2, 2)[many - 1])
        for numbers in pairs[::(1, 1, 1, 97)[many - 1]]:
            yield sample, numbers[:many], numbers[many:]


class TriedOut:
    """What can be reached by any steps, each search done once."""

    def __init__(self):
        self.known = {}

    def reached(self, sample, laying):
        mark = (sample[0], tuple(sample[1]), tuple(laying))
        if mark not in self.known:
            self.known[mark] = samples.slow_reached(sample, laying)
        return self.known[mark]

    def covering(self, sample, laying, wish):
        return [found for found in self.reached(sample, laying) if all(f >= w for f, w in zip(found, wish))]


class ByHand(unittest.TestCase):
    def test_standings_on_a_row(self):
        web = made(ROW)
        # Seen from 0: at 3 there are 2 too few, which cost 22 at 2; there 7 are left over of 29.
        self.assertEqual(standings(web, (0, 0, 30, 0), (0, 0, 1, 2), 0), [0, 1, 7, -2])
        self.assertEqual(standings(web, (4, 0, 30, 0), (0, 0, 1, 2), 0), [4, 1, 7, -2])
        self.assertEqual(standings(web, (4, 0, 30, 0), (0, 0, 1, 2), 3), [4, 2, 29, 0])
        # Where the web is lacking, what is put farther off costs more.
        self.assertEqual(standings(web, (0, 0, 0, 0), (0, 0, 0, 1), 0), [-154, -77, -11, -1])
        self.assertEqual(standings(web, (0, 0, 0, 0), (1, 0, 0, 0), 3), [-1, -3, -15, -195])

    def test_standings_on_a_star(self):
        web = made(STAR)
        self.assertEqual(standings(web, (7, 0, 0, 0, 0), (0, 0, 0, 0, 0), 2), [7, 0, 2, 0, 0])
        self.assertEqual(standings(web, (7, 0, 0, 0, 6), (0, 1, 1, 0, 0), 2), [7, -1, 2 - 1 + 1 - 11, 0, 6])
        self.assertEqual(standing(web, (7, 0, 0, 0, 6), (0, 1, 1, 0, 0), 2), -9)

    def test_standings_on_a_branched_web(self):
        web = made(BRANCHED)
        laying = (10, 0, 0, 0, 0, 0, 0)
        wish = (0, 0, 0, 1, 0, 0, 1)
        self.assertEqual(standings(web, laying, wish, 0), [10 - 7 - 3, 0, 0, -1, 0, 0, -1])
        self.assertEqual(standings(web, laying, wish, 6), [3, 0, 0, -1, 0, 0, 0])
        self.assertIs(is_met(web, laying, wish), True)
        self.assertEqual(walked(web, laying, meeting(web, laying, wish)[1]), (0, 0, 0, 1, 0, 0, 1))
        self.assertIs(is_met(web, (9, 0, 0, 0, 0, 0, 0), wish), False)

    def test_meeting(self):
        web = made(ROW)
        self.assertEqual(meeting(web, (0, 0, 0, 0), (0, 0, 0, 1)), ("lack", (154, 77, 11, 1)))
        self.assertEqual(meeting(web, (0, 0, 11, 0), (0, 0, 0, 1)), ("steps", [(2, 3, 1)]))
        self.assertEqual(meeting(web, (0, 0, 12, 0), (0, 0, 12, 0)), ("steps", []))
        self.assertEqual(meeting(made(ALONE), (3,), (5,)), ("lack", (2,)))
        self.assertEqual(meeting(made(ALONE), (5,), (5,)), ("steps", []))

    def test_what_is_wanted_at_a_place_is_not_given_away(self):
        web = made(PAIR)
        self.assertIs(is_met(web, (0, 3), (1, 1)), True)
        self.assertIs(is_met(web, (0, 2), (1, 1)), False)
        self.assertEqual(meeting(web, (0, 2), (1, 1)), ("lack", (1, 1)))


class AllStepsTried(unittest.TestCase):
    def test_whether_a_wish_is_met(self):
        tried = TriedOut()
        for sample, laying, wish in small_cases():
            met = len(tried.covering(sample, laying, wish)) > 0
            web = made(sample)
            self.assertIs(is_met(web, laying, wish), met)
            self.assertEqual(meeting(web, laying, wish)[0], "steps" if met else "lack")

    def test_standings_from_0_on(self):
        tried = TriedOut()
        for sample, laying, wish in small_cases():
            covering = tried.covering(sample, laying, wish)
            if covering:
                for r in range(sample[0]):
                    left = max(found[r] - wish[r] for found in covering)
                    self.assertEqual(standing(made(sample), laying, wish, r), left)

    def test_standings_below_0_and_lacks(self):
        tried = TriedOut()
        for sample, laying, wish in list(small_cases())[::5]:
            web = made(sample)
            if not tried.covering(sample, laying, wish):
                lacks = meeting(web, laying, wish)[1]
                for r in range(sample[0]):
                    self.assertEqual(standing(web, laying, wish, r), -lacks[r])
                    self.assertGreaterEqual(lacks[r], 1)
                    if lacks[r] <= 24:
                        just = put(web, laying, r, lacks[r])
                        fewer = put(web, laying, r, lacks[r] - 1)
                        self.assertTrue(tried.covering(sample, just, wish))
                        self.assertFalse(tried.covering(sample, fewer, wish))


class Standings(unittest.TestCase):
    def test_against_the_slow_way(self):
        for sample, laying, wish in cases():
            web = made(sample)
            for r in range(web.many):
                told = standings(web, laying, wish, r)
                self.assertIs(type(told), list)
                self.assertEqual(told, samples.slow_standings(sample, laying, wish, r))
                self.assertEqual(standing(web, laying, wish, r), told[r])

    def test_from_0_on_for_every_place_or_for_none(self):
        seen = []
        for sample, laying, wish in cases():
            web = made(sample)
            signs = {standing(web, laying, wish, r) >= 0 for r in range(web.many)}
            self.assertEqual(signs, {is_met(web, laying, wish)})
            seen += list(signs)
        self.assertGreater(seen.count(True), 20)
        self.assertGreater(seen.count(False), 20)

    def test_so_many_more_can_be_wanted_and_no_more(self):
        for sample, laying, wish in cases():
            web = made(sample)
            if is_met(web, laying, wish):
                for r in range(web.many):
                    over = standing(web, laying, wish, r)
                    self.assertIs(is_met(web, laying, put(web, wish, r, over)), True)
                    self.assertIs(is_met(web, laying, put(web, wish, r, over + 1)), False)

    def test_the_gathered_pebbles_are_the_standings_of_no_wish(self):
        for sample, laying, wish in cases():
            for r in range(sample[0]):
                told = standings(made(sample), laying, [0] * sample[0], r)
                self.assertEqual(told, samples.slow_gathered(sample, laying, r))


class Meetings(unittest.TestCase):
    def test_steps_that_meet_the_wish(self):
        for sample, laying, wish in list(cases()) + list(small_cases()):
            web = made(sample)
            told = meeting(web, laying, wish)
            self.assertIs(type(told), tuple)
            self.assertEqual(len(told), 2)
            if is_met(web, laying, wish):
                self.assertEqual(told[0], "steps")
                self.assertIs(type(told[1]), list)
                self.assertIs(covers(walked(web, laying, told[1]), wish), True)
                self.check_form(told[1])
            else:
                self.assertEqual(told[0], "lack")

    def check_form(self, steps):
        for step in steps:
            self.assertIs(type(step), tuple)
            self.assertEqual(len(step), 3)
            self.assertGreaterEqual(step[2], 1)
        roads = {tuple(sorted(step[:2])) for step in steps}
        self.assertEqual(len(roads), len(steps))

    def test_lacks_are_just_enough(self):
        for sample, laying, wish in cases():
            web = made(sample)
            told = meeting(web, laying, wish)
            if told[0] == "lack":
                self.assertIs(type(told[1]), tuple)
                self.assertEqual(len(told[1]), web.many)
                for r in range(web.many):
                    self.assertIs(is_met(web, put(web, laying, r, told[1][r]), wish), True)
                    self.assertIs(is_met(web, put(web, laying, r, told[1][r] - 1), wish), False)

    def test_lists_and_tuples_do_alike(self):
        for sample, laying, wish in cases():
            web = made(sample)
            told = meeting(web, laying, wish)
            self.assertEqual(meeting(web, tuple(laying), tuple(wish)), told)
            self.assertEqual(standings(web, tuple(laying), tuple(wish), 0), standings(web, laying, wish, 0))


class Judgements(unittest.TestCase):
    def test_told_answers_are_right(self):
        for sample, laying, wish in list(cases()) + list(small_cases()):
            web = made(sample)
            self.assertIs(judged(web, laying, wish, meeting(web, laying, wish)), True)

    def test_lacks_with_one_number_changed(self):
        for sample, laying, wish in list(cases())[::5]:
            web = made(sample)
            if not is_met(web, laying, wish):
                lacks = meeting(web, laying, wish)[1]
                for place in range(web.many):
                    for change in (1, -1, -2 * lacks[place]):
                        wrong = lacks[:place] + (lacks[place] + change,) + lacks[place + 1:]
                        self.assertIs(judged(web, laying, wish, ("lack", wrong)), False)

    def test_lacks_of_another_length(self):
        for sample, laying, wish in cases():
            web = made(sample)
            if not is_met(web, laying, wish):
                lacks = meeting(web, laying, wish)[1]
                for wrong in ((), lacks[1:], lacks[:-1], lacks + (0,), (0,) + lacks, lacks + lacks):
                    self.assertIs(judged(web, laying, wish, ("lack", wrong)), False)

    def test_lacks_where_the_wish_can_be_met(self):
        for sample, laying, wish in cases():
            web = made(sample)
            if is_met(web, laying, wish):
                noughts = (0,) * web.many
                standing_turned = tuple(-standing(web, laying, wish, r) for r in range(web.many))
                for wrong in (noughts, standing_turned, (), (1,) * web.many):
                    self.assertIs(judged(web, laying, wish, ("lack", wrong)), False)

    def test_every_list_of_lacks_on_a_pair(self):
        web = samples.Web(2, [(0, 1, 2, 3)])
        for laying in small_lists(2, 2):
            for wish in small_lists(2, 2):
                right = [t for t in small_lists(2, 9) if judged(web, laying, wish, ("lack", t))]
                told = meeting(web, laying, wish)
                self.assertEqual(right, [told[1]] if told[0] == "lack" else [])

    def test_steps_that_can_not_be_done(self):
        web = made(ROW)
        laying = (4, 0, 11, 0)
        wish = (0, 0, 0, 1)
        self.assertIs(judged(web, laying, wish, ("steps", [(2, 3, 1)])), True)
        for wrong in ((2, 2, 1), (0, 2, 1), (0, 1, 3), (0, 1, 0), (0, 1, -1), (0, -1, 1), (-1, 2, 1), (4, 3, 1),
                      (HUGE, 0, 1), (0, HUGE, 1), (0, 1, BIG), (0, 1, -BIG), (2, 3, 1)):
            self.assertIs(judged(web, laying, wish, ("steps", [(2, 3, 1), wrong])), False)
        for wrong in ((2, 2, 1), (0, 2, 1), (0, 1, 3), (0, 1, 0), (2, 3, 2)):
            self.assertIs(judged(web, laying, wish, ("steps", [wrong, (2, 3, 1)])), False)

    def test_steps_that_can_be_done_but_do_not_meet_the_wish(self):
        web = made(ROW)
        laying = (4, 0, 11, 0)
        wish = (0, 0, 0, 1)
        for steps in ([], [(0, 1, 1)], [(0, 1, 2)], [(2, 1, 1)]):
            self.assertIs(judged(web, laying, wish, ("steps", steps)), False)
        self.assertIs(judged(web, laying, (0, 0, 0, 2), ("steps", [(2, 3, 1)])), False)
        self.assertIs(judged(web, laying, (0, 0, 1, 1), ("steps", [(2, 3, 1)])), False)

    def test_more_steps_than_one_for_a_road(self):
        web = made(ROW)
        steps = [(0, 1, 1), (0, 1, 1), (0, 1, 1), (1, 0, 1), (0, 1, 1)]
        self.assertIs(judged(web, (7, 0, 0, 0), (0, 1, 0, 0), ("steps", steps)), True)
        self.assertIs(judged(web, (7, 0, 0, 0), (0, 2, 0, 0), ("steps", steps)), False)
        self.assertIs(judged(web, (7, 0, 0, 0), (0, 1, 0, 0), ("steps", tuple(steps))), True)

    def test_steps_where_the_wish_can_not_be_met(self):
        for sample, laying, wish in cases():
            web = made(sample)
            if not is_met(web, laying, wish):
                self.assertIs(judged(web, laying, wish, ("steps", [])), False)

    def test_no_steps_where_the_laying_covers_the_wish(self):
        for sample, laying, wish in cases():
            web = made(sample)
            self.assertIs(judged(web, laying, wish, ("steps", [])), covers(laying, wish))


def asks(web, laying, wish):
    yield lambda: is_met(web, laying, wish)
    yield lambda: meeting(web, laying, wish)
    for answer in (("steps", []), ("steps", [(0, 0, 0)]), ("lack", ()), ("lack", (0,) * web.many)):
        yield lambda answer=answer: judged(web, laying, wish, answer)


def asks_of_a_place(web, laying, wish, r):
    yield lambda: standings(web, laying, wish, r)
    yield lambda: standing(web, laying, wish, r)


class Refusals(unittest.TestCase):
    def test_bad_laying_goes_first(self):
        for sample in NAMED:
            web = made(sample)
            for wrong in wrong_lists(web.many):
                for wish in ([0] * web.many, [-1] * web.many, []):
                    for ask in asks(web, wrong, wish):
                        self.assertRaises(BadLaying, ask)
                    for r in (0, -1, web.many):
                        for ask in asks_of_a_place(web, wrong, wish, r):
                            self.assertRaises(BadLaying, ask)

    def test_then_bad_wish(self):
        for sample in NAMED:
            web = made(sample)
            for wrong in wrong_lists(web.many):
                for laying in ([0] * web.many, [BIG] * web.many):
                    for ask in asks(web, laying, wrong):
                        self.assertRaises(BadWish, ask)
                    for r in (0, -1, web.many):
                        for ask in asks_of_a_place(web, laying, wrong, r):
                            self.assertRaises(BadWish, ask)

    def test_then_no_place(self):
        for sample in NAMED:
            web = made(sample)
            for wrong in wrong_places(web.many):
                for ask in asks_of_a_place(web, [0] * web.many, [1] * web.many, wrong):
                    self.assertRaises(NoPlace, ask)


class ArgumentsByName(unittest.TestCase):
    def test_names(self):
        web = made(PAIR)
        self.assertEqual(standings(web=web, laying=(0, 4), wish=(1, 0), r=0), [1, 4])
        self.assertEqual(standing(web=web, laying=(0, 4), wish=(1, 0), r=0), 1)
        self.assertIs(is_met(web=web, laying=(0, 4), wish=(1, 0)), True)
        self.assertEqual(meeting(web=web, laying=(0, 4), wish=(2, 0)), ("steps", [(1, 0, 2)]))
        self.assertIs(judged(web=web, laying=(0, 4), wish=(1, 0), answer=("steps", [(1, 0, 1)])), True)


if __name__ == "__main__":
    unittest.main()
