"""Stage 9: fair shares."""

import unittest
from fractions import Fraction
from random import Random

from samples import (
    ALONE, BIG_BRANCHED, BRANCHED, EVEN, EVEN_STAR, LONG_ROW, NAMED, all_webs, cheap_webs, made, mixed_lists,
    most_finder, slow_price, small_lists, tolls, wrong_places,
)

from pebbletoll.bringing import most
from pebbletoll.errors import NoPlace
from pebbletoll.fractions import fraction, less, minus, plus, sum_up, times
from pebbletoll.shares import even_shares, fairest, second_shares, shows_fairest, worth, yields
from pebbletoll.webs import Web

TWO = (2, [(0, 1, 2, 3)])
# The place in the middle is the last one; its even share and its second share are nought.
LAST_IN_THE_MIDDLE = (4, [(0, 3, 2, 2), (1, 3, 2, 2), (2, 3, 2, 2)])
# The even share in the middle is below nought, no second share is; and the other way round.
EVEN_BELOW = (4, [(1, 0, 2, 10), (2, 0, 2, 10), (0, 3, 10, 2)])
SECOND_BELOW = (4, [(0, 1, 2, 10), (0, 2, 2, 10), (3, 0, 10, 2)])
FIVE = (5, [(0, 1, 2, 2), (0, 2, 2, 2), (0, 3, 2, 2), (0, 4, 2, 2)])
# Below nought at 1 by the even shares and at 4 by the second ones.
BOTH_BELOW = (
    8, [(2, 1, 2, 10), (3, 1, 2, 10), (0, 1, 2, 10), (1, 4, 2, 10), (4, 5, 2, 10), (4, 6, 2, 10), (7, 4, 10, 2)],
)
OWN = (TWO, LAST_IN_THE_MIDDLE, EVEN_BELOW, SECOND_BELOW, FIVE, BOTH_BELOW)
LITTLE = (1, 10 ** 60)


def pair(number):
    return (number.numerator, number.denominator)


def webs():
    yield from all_webs()
    yield from EVEN
    yield from OWN


def slow_worth(sample, shares, v):
    return pair(sum(Fraction(*share) / slow_price(sample, u, v) for u, share in enumerate(shares)))


def slow_yields(sample, shares, u):
    return pair(sum(Fraction(*share) / slow_price(sample, u, v) for v, share in enumerate(shares)))


def slow_even(sample, v):
    """The even share at v by the words of 9.2."""
    found = Fraction(1)
    for (a, b), number in tolls(sample).items():
        if a == v:
            found -= Fraction(number - 1, tolls(sample)[(b, a)] * number - 1)
    return found


def slow_second(sample, v):
    found = Fraction(1)
    for (a, b), number in tolls(sample).items():
        if b == v:
            found -= Fraction(number - 1, tolls(sample)[(b, a)] * number - 1)
    return found


def mixed_shares(many, figures, how_many):
    """Shares of either sign, of so many figures at most: always the same ones."""
    source = Random(11)
    for turn in range(how_many):
        tops = [source.randint(-10 ** figures + 1, 10 ** figures - 1) * source.randrange(2) for place in range(many)]
        yield [pair(Fraction(top, source.randint(1, 10 ** figures - 1))) for top in tops]


def changed(shares, place, share):
    return shares[:place] + [share] + shares[place + 1:]


def raised(shares, place, more):
    return changed(shares, place, plus(shares[place], more))


def lowered(shares, place, fewer):
    return changed(shares, place, minus(shares[place], fewer))


class ByHand(unittest.TestCase):
    def test_on_two_places(self):
        web = made(TWO)
        self.assertEqual(even_shares(web), [(4, 5), (3, 5)])
        self.assertEqual(second_shares(web), [(3, 5), (4, 5)])
        self.assertEqual(worth(web, [(1, 1), (0, 1)], 1), (1, 2))
        self.assertEqual(worth(web, [(0, 1), (1, 1)], 0), (1, 3))
        self.assertEqual(yields(web, [(1, 1), (0, 1)], 1), (1, 3))
        self.assertEqual(yields(web, [(0, 1), (1, 1)], 0), (1, 2))
        self.assertEqual(worth(web, [(1, 2), (-3, 2)], 0), (0, 1))
        self.assertEqual(worth(web, [(1, 2), (-3, 2)], 1), (-5, 4))
        self.assertEqual(fairest(web), ("fairest", [(4, 5), (3, 5)], [(3, 5), (4, 5)]))

    def test_on_a_row(self):
        web = Web(3, [(0, 1, 2, 3), (2, 1, 5, 7)])
        self.assertEqual(even_shares(web), [(4, 5), (36, 85), (15, 17)])
        self.assertEqual(second_shares(web), [(3, 5), (58, 85), (14, 17)])
        self.assertEqual(sum_up(even_shares(web)), (179, 85))
        self.assertEqual(worth(web, [(1, 1), (1, 1), (1, 1)], 0), (7, 5))
        self.assertEqual(worth(web, [(1, 1), (1, 1), (1, 1)], 2), (17, 14))
        self.assertEqual(yields(web, [(1, 1), (1, 1), (1, 1)], 0), (11, 7))
        self.assertEqual(yields(web, [(1, 1), (1, 1), (1, 1)], 2), (19, 15))
        self.assertEqual(fairest(web)[0], "fairest")

    def test_on_one_place(self):
        web = made(ALONE)
        self.assertEqual(even_shares(web), [(1, 1)])
        self.assertEqual(second_shares(web), [(1, 1)])
        self.assertEqual(worth(web, [(-7, 3)], 0), (-7, 3))
        self.assertEqual(yields(web, [(0, 1)], 0), (0, 1))
        self.assertEqual(fairest(web), ("fairest", [(1, 1)], [(1, 1)]))
        self.assertIs(shows_fairest(web, [(1, 1)], [(1, 1)]), True)

    def test_a_share_of_nought_is_not_below_nought(self):
        shares = [(2, 3), (2, 3), (2, 3), (0, 1)]
        web = made(LAST_IN_THE_MIDDLE)
        self.assertEqual(fairest(web), ("fairest", shares, shares))
        self.assertIs(shows_fairest(web, shares, shares), True)
        self.assertEqual(fairest(made(EVEN_STAR)), ("fairest", [(0, 1)] + [(2, 3)] * 3, [(0, 1)] + [(2, 3)] * 3))

    def test_a_share_below_nought(self):
        self.assertEqual(even_shares(made(EVEN_BELOW)), [(-8, 19)] + [(18, 19)] * 3)
        self.assertEqual(second_shares(made(EVEN_BELOW)), [(16, 19)] + [(10, 19)] * 3)
        self.assertEqual(even_shares(made(SECOND_BELOW)), [(16, 19)] + [(10, 19)] * 3)
        self.assertEqual(second_shares(made(SECOND_BELOW)), [(-8, 19)] + [(18, 19)] * 3)
        self.assertEqual(even_shares(made(FIVE)), [(-1, 3)] + [(2, 3)] * 4)
        for sample in (EVEN_BELOW, SECOND_BELOW, FIVE):
            self.assertEqual(fairest(made(sample)), ("below", [0]))
        self.assertEqual(fairest(made(BOTH_BELOW)), ("below", [1, 4]))

    def test_fairest_where_an_even_share_is_below_nought(self):
        web = made(FIVE)
        shares = [(2, 1), (0, 1), (0, 1), (0, 1), (0, 1)]
        second = [(0, 1), (1, 2), (1, 2), (1, 2), (1, 2)]
        self.assertIs(shows_fairest(web, shares, second), True)
        self.assertIs(shows_fairest(web, tuple(shares), tuple(second)), True)
        self.assertIs(shows_fairest(web, second, shares), False)
        self.assertIs(less(sum_up(shares), sum_up(even_shares(web))), True)


class Worth(unittest.TestCase):
    def test_by_the_prices_at_every_place(self):
        for sample in webs():
            web = made(sample)
            for figures in (1, 60):
                for shares in mixed_shares(web.many, figures, 2):
                    for place in range(web.many):
                        self.assertEqual(worth(web, shares, place), slow_worth(sample, shares, place))
                        self.assertEqual(yields(web, shares, place), slow_yields(sample, shares, place))

    def test_a_share_at_one_place(self):
        for sample in NAMED:
            web = made(sample)
            for place in range(web.many):
                shares = [(-4, 3) if other == place else (0, 1) for other in range(web.many)]
                for other in range(web.many):
                    self.assertEqual(worth(web, shares, other), fraction(-4, 3 * slow_price(sample, place, other)))
                    self.assertEqual(yields(web, shares, other), fraction(-4, 3 * slow_price(sample, other, place)))

    def test_tuples_do_as_well(self):
        web = made(BRANCHED)
        for shares in mixed_shares(7, 20, 5):
            self.assertEqual(worth(web, tuple(shares), 3), worth(web, shares, 3))
            self.assertEqual(yields(web, tuple(shares), 3), yields(web, shares, 3))
            self.assertIs(worth(web, shares, 3).__class__, tuple)
            self.assertIs(yields(web, shares, 3).__class__, tuple)

    def test_no_place(self):
        for sample in NAMED:
            web = made(sample)
            shares = even_shares(web)
            for place in wrong_places(web.many):
                with self.assertRaises(NoPlace):
                    worth(web, shares, place)
                with self.assertRaises(NoPlace):
                    yields(web, shares, place)

    def test_arguments_by_name(self):
        web = made(TWO)
        shares = [(1, 1), (0, 1)]
        self.assertEqual(worth(v=1, shares=shares, web=web), (1, 2))
        self.assertEqual(yields(u=1, shares=shares, web=web), (1, 3))
        self.assertEqual(even_shares(web=web), [(4, 5), (3, 5)])
        self.assertEqual(second_shares(web=web), [(3, 5), (4, 5)])
        self.assertIs(shows_fairest(second=[(3, 5), (4, 5)], shares=[(4, 5), (3, 5)], web=web), True)
        self.assertIs(shows_fairest(second=[(4, 5), (3, 5)], shares=[(3, 5), (4, 5)], web=web), False)
        self.assertEqual(fairest(web=web)[0], "fairest")

    def test_a_laying_is_worth_at_least_its_most(self):
        for sample in NAMED + EVEN:
            web = made(sample)
            for greatest in (5, 10 ** 9, 10 ** 59):
                for laying in mixed_lists(web.many, greatest, 2):
                    shares = [(number, 1) for number in laying]
                    for place in range(web.many):
                        self.assertIs(less(worth(web, shares, place), (most(web, laying, place), 1)), False)


class EvenAndSecond(unittest.TestCase):
    def test_by_the_words(self):
        for sample in webs():
            web = made(sample)
            self.assertEqual(even_shares(web), [pair(slow_even(sample, v)) for v in range(web.many)])
            self.assertEqual(second_shares(web), [pair(slow_second(sample, v)) for v in range(web.many)])

    def test_the_worth_of_the_even_ones_is_1_everywhere(self):
        for sample in webs():
            web = made(sample)
            shares = even_shares(web)
            for place in range(web.many):
                self.assertEqual(worth(web, shares, place), (1, 1))
                self.assertEqual(slow_worth(sample, shares, place), (1, 1))

    def test_the_sums_of_the_second_ones_are_1_everywhere(self):
        for sample in webs():
            web = made(sample)
            shares = second_shares(web)
            for place in range(web.many):
                self.assertEqual(yields(web, shares, place), (1, 1))
                self.assertEqual(slow_yields(sample, shares, place), (1, 1))

    def test_both_have_the_same_sum(self):
        for sample in webs():
            web = made(sample)
            self.assertEqual(sum_up(even_shares(web)), sum_up(second_shares(web)))

    def test_no_others_have_a_worth_of_1_everywhere(self):
        for sample in NAMED:
            web = made(sample)
            for other in mixed_shares(web.many, 30, 4):
                shares = [plus(*both) for both in zip(even_shares(web), other)]
                same = all(worth(web, shares, place) == (1, 1) for place in range(web.many))
                self.assertEqual(same, all(share == (0, 1) for share in other))

    def test_lists_of_tuples_are_told(self):
        for sample in NAMED:
            for shares in (even_shares(made(sample)), second_shares(made(sample))):
                self.assertIs(shares.__class__, list)
                self.assertEqual(set(share.__class__ for share in shares), {tuple})


def sound_webs():
    """Webs of which no even share and no second share is below nought."""
    for sample in webs():
        if all(slow_even(sample, v) >= 0 and slow_second(sample, v) >= 0 for v in range(sample[0])):
            yield sample


class Fairest(unittest.TestCase):
    def test_it_tells_the_even_and_the_second_shares(self):
        many = 0
        for sample in sound_webs():
            web = made(sample)
            answer = fairest(web)
            self.assertEqual(answer, ("fairest", even_shares(web), second_shares(web)))
            self.assertEqual([value.__class__ for value in answer], [str, list, list])
            self.assertIs(shows_fairest(web, answer[1], answer[2]), True)
            many += 1
        self.assertGreater(many, 50)
        self.assertIn(LONG_ROW, list(sound_webs()))
        self.assertIn(BIG_BRANCHED, list(sound_webs()))

    def test_or_the_places_below_nought(self):
        sound = list(sound_webs())
        told = []
        for sample in [sample for sample in webs() if sample not in sound]:
            low = [v for v in range(sample[0]) if slow_even(sample, v) < 0 or slow_second(sample, v) < 0]
            answer = fairest(made(sample))
            self.assertEqual(answer, ("below", low))
            self.assertEqual([value.__class__ for value in answer], [str, list])
            told.append(low)
        self.assertGreater(len(told), 5)
        self.assertGreater(max(len(low) for low in told), 1)

    def test_no_other_shares_have_a_lesser_sum(self):
        for sample in list(sound_webs())[::7]:
            web = made(sample)
            least = sum_up(even_shares(web))
            for shares in mixed_shares(web.many, 3, 6):
                shares = [(abs(top), bottom) for top, bottom in shares]
                lowest = min(Fraction(*worth(web, shares, v)) for v in range(web.many))
                if lowest > 0:
                    scaled = [times(share, pair(1 / lowest)) for share in shares]
                    self.assertIs(less(sum_up(scaled), least), False)

    def test_a_laying_that_can_bring_so_many_to_each_place(self):
        for sample in cheap_webs(4):
            answer = fairest(made(sample))
            if answer[0] == "fairest":
                least = Fraction(*sum_up(answer[1]))
                finders = [most_finder(sample, r) for r in range(sample[0])]
                for laying in small_lists(sample[0], 5):
                    wanted = min(find(laying) for find in finders)
                    self.assertGreaterEqual(sum(laying), wanted * least)


class ShowsFairest(unittest.TestCase):
    def wrong(self, web, shares, second):
        self.assertIs(shows_fairest(web, shares, second), False)
        self.assertIs(shows_fairest(web, tuple(shares), tuple(second)), False)

    def test_lists_of_another_length(self):
        for sample in [TWO, ALONE, LAST_IN_THE_MIDDLE, BRANCHED]:
            web = made(sample)
            shares, second = even_shares(web), second_shares(web)
            for wrong in ([], shares[:-1], shares + [(0, 1)], shares + [(1, 2)], shares + shares):
                self.wrong(web, wrong, second)
            for wrong in ([], second[:-1], second + [(0, 1)], second + [(1, 2)], second + second):
                self.wrong(web, shares, wrong)
            self.wrong(web, shares + [(0, 1)], second + [(0, 1)])
            self.wrong(web, shares[:-1], second[:-1])
            self.wrong(web, [], [])

    def test_one_share_below_nought(self):
        # All else is so: each worth and each sum is 1, and both sums are alike.
        for sample in (EVEN_BELOW, SECOND_BELOW, FIVE, BOTH_BELOW):
            self.wrong(made(sample), even_shares(made(sample)), second_shares(made(sample)))

    def test_one_share_below_nought_by_a_little(self):
        web = made(LAST_IN_THE_MIDDLE)
        shares = even_shares(web)
        self.assertIs(shows_fairest(web, shares, shares), True)
        lower = lowered(raised(shares, 0, (1, 1)), 3, LITTLE)
        self.wrong(web, lower, raised(lowered(shares, 0, LITTLE), 1, (1, 1)))
        self.wrong(web, shares, lowered(raised(shares, 0, LITTLE), 3, LITTLE))

    def test_a_worth_just_below_1(self):
        for sample in list(sound_webs())[::5]:
            web = made(sample)
            shares, second = even_shares(web), second_shares(web)
            for place in range(web.many):
                if less(LITTLE, shares[place]) and less(LITTLE, second[place]):
                    self.wrong(web, lowered(shares, place, LITTLE), lowered(second, place, LITTLE))

    def test_one_worth_alone_just_below_1(self):
        web = made(TWO)
        for one, other in ((0, 1), (1, 0)):
            shares = raised(lowered(even_shares(web), one, LITTLE), other, LITTLE)
            self.assertEqual([less(worth(web, shares, v), (1, 1)) for v in (one, other)], [True, False])
            self.assertEqual(sum_up(shares), sum_up(second_shares(web)))
            self.wrong(web, shares, second_shares(web))

    def test_a_sum_just_above_1(self):
        for sample in list(sound_webs())[::5]:
            web = made(sample)
            shares, second = even_shares(web), second_shares(web)
            for place in range(web.many):
                self.wrong(web, raised(shares, place, LITTLE), raised(second, place, LITTLE))

    def test_one_sum_alone_just_above_1(self):
        web = made(TWO)
        for one, other in ((0, 1), (1, 0)):
            second = raised(lowered(second_shares(web), one, LITTLE), other, LITTLE)
            self.assertEqual([less((1, 1), yields(web, second, u)) for u in (one, other)], [False, True])
            self.assertEqual(sum_up(second), sum_up(even_shares(web)))
            self.wrong(web, even_shares(web), second)

    def test_sums_that_differ(self):
        for sample in list(sound_webs())[::5]:
            web = made(sample)
            shares, second = even_shares(web), second_shares(web)
            for place in range(web.many):
                self.wrong(web, raised(shares, place, LITTLE), second)
                if less(LITTLE, second[place]):
                    self.wrong(web, shares, lowered(second, place, LITTLE))
            self.wrong(web, [times(share, (2, 1)) for share in shares], second)
            self.wrong(web, shares, [(0, 1)] * web.many)

    def test_by_the_words_of_the_interface(self):
        right = 0
        for sample in cheap_webs(4):
            web = made(sample)
            even, second = even_shares(web), second_shares(web)
            lists = [even, second, [(1, 1)] * web.many, [(2, 1)] + [(0, 1)] * (web.many - 1)]
            lists += list(mixed_shares(web.many, 1, 2))
            for one in lists:
                for two in lists:
                    found = shows_fairest(web, one, two)
                    self.assertIs(found, slow_shows(sample, one, two))
                    right += found
        self.assertGreater(right, 10)


def slow_shows(sample, shares, second):
    places = range(sample[0])
    return (
        len(shares) == len(second) == sample[0] and min(shares + second) >= (0, 1)
        and all(Fraction(*slow_worth(sample, shares, v)) >= 1 for v in places)
        and all(Fraction(*slow_yields(sample, second, u)) <= 1 for u in places)
        and sum(Fraction(*share) for share in shares) == sum(Fraction(*share) for share in second)
    )


if __name__ == "__main__":
    unittest.main()
