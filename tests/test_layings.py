"""Stage 3: layings."""

import unittest

from samples import ALONE, BRANCHED, HUGE, NAMED, PAIR, ROW, STAR, made, wrong_lists, wrong_places

from pebbletoll.errors import BadLaying, NoPlace
from pebbletoll.layings import covers, laying_of, pile, put, total

BIG = 10 ** 399


def some_numbers(many):
    return [(3 * place + 1) % 5 for place in range(many)]


class LayingsThatAreMade(unittest.TestCase):
    def test_of_lists_and_tuples(self):
        for sample in NAMED:
            web = made(sample)
            for numbers in (some_numbers(web.many), [0] * web.many, [BIG + k for k in range(web.many)]):
                for handed in (list(numbers), tuple(numbers)):
                    told = laying_of(web, handed)
                    self.assertIs(type(told), tuple)
                    self.assertEqual(told, tuple(numbers))

    def test_of_a_laying(self):
        web = made(STAR)
        self.assertEqual(laying_of(web, laying_of(web, [1, 2, 3, 4, 5])), (1, 2, 3, 4, 5))

    def test_a_list_that_is_changed_behind(self):
        handed = [1, 2, 3, 4]
        told = laying_of(made(ROW), handed)
        handed[0] = 9
        handed.append(9)
        self.assertEqual(told, (1, 2, 3, 4))

    def test_the_list_stays_as_it_was(self):
        handed = [1, 2, 3, 4]
        laying_of(made(ROW), handed)
        self.assertEqual(handed, [1, 2, 3, 4])


class LayingsThatAreRefused(unittest.TestCase):
    def test_too_few_too_many_and_below_nought(self):
        for sample in NAMED:
            web = made(sample)
            for wrong in wrong_lists(web.many):
                for handed in (list(wrong), tuple(wrong)):
                    with self.assertRaises(BadLaying):
                        laying_of(web, handed)

    def test_one_below_nought_at_each_place(self):
        for sample in NAMED:
            web = made(sample)
            for place in range(web.many):
                numbers = [0] * web.many
                laying_of(web, numbers)
                numbers[place] = -1
                with self.assertRaises(BadLaying):
                    laying_of(web, numbers)

    def test_below_nought_is_not_made_good_by_others(self):
        with self.assertRaises(BadLaying):
            laying_of(made(PAIR), [5, -1])
        with self.assertRaises(BadLaying):
            laying_of(made(PAIR), [-5, HUGE])


class Totals(unittest.TestCase):
    def test_sums(self):
        self.assertEqual(total([]), 0)
        self.assertEqual(total([7]), 7)
        self.assertEqual(total([1, 2, 3, 4]), 10)
        self.assertEqual(total((1, 2, 3, 4)), 10)
        self.assertEqual(total([BIG, BIG, 1]), 2 * BIG + 1)
        self.assertEqual(total([5, -7, 0]), -2)

    def test_of_each_place(self):
        for place in range(24):
            numbers = [0] * 24
            numbers[place] = 3
            self.assertEqual(total(numbers), 3)


class Piles(unittest.TestCase):
    def test_at_each_place(self):
        for sample in NAMED:
            web = made(sample)
            for place in range(web.many):
                for many in (0, 1, 12, BIG):
                    told = pile(web, place, many)
                    self.assertIs(type(told), tuple)
                    self.assertEqual(told, tuple(many if v == place else 0 for v in range(web.many)))

    def test_refusals_in_their_order(self):
        for sample in NAMED:
            web = made(sample)
            for place in range(web.many):
                for many in (-1, -HUGE, -BIG):
                    with self.assertRaises(BadLaying):
                        pile(web, place, many)
            for wrong in wrong_places(web.many):
                for many in (-1, 0, 1, -HUGE):
                    with self.assertRaises(NoPlace):
                        pile(web, wrong, many)


class Puts(unittest.TestCase):
    def test_at_each_place(self):
        for sample in NAMED:
            web = made(sample)
            before = some_numbers(web.many)
            for place in range(web.many):
                for many in (0, 1, 5, BIG, -before[place], 1 - before[place]):
                    if before[place] + many >= 0:
                        wanted = before[:place] + [before[place] + many] + before[place + 1:]
                        for handed in (list(before), tuple(before)):
                            told = put(web, handed, place, many)
                            self.assertIs(type(told), tuple)
                            self.assertEqual(told, tuple(wanted))
                            self.assertEqual(list(handed), before)

    def test_down_to_none_and_beyond(self):
        for sample in NAMED:
            web = made(sample)
            for place in range(web.many):
                for has in (0, 1, 6, BIG):
                    handed = [8] * web.many
                    handed[place] = has
                    told = put(web, handed, place, -has)
                    self.assertEqual(told, tuple(0 if v == place else 8 for v in range(web.many)))
                    for many in (-has - 1, -has - HUGE):
                        with self.assertRaises(BadLaying):
                            put(web, handed, place, many)
                    self.assertEqual(handed[place], has)

    def test_refusals_in_their_order(self):
        for sample in NAMED:
            web = made(sample)
            for wrong in wrong_lists(web.many):
                for place in (0, -1, web.many, HUGE):
                    for many in (0, 1, -1, 100, -100, 10 ** 400):
                        with self.assertRaises(BadLaying):
                            put(web, wrong, place, many)
            for place in wrong_places(web.many):
                for many in (0, 1, -1, -HUGE):
                    with self.assertRaises(NoPlace):
                        put(web, [0] * web.many, place, many)

    def test_a_laying_that_becomes_right_is_refused_all_the_same(self):
        with self.assertRaises(BadLaying):
            put(made(PAIR), [-1, 0], 0, 1)


class Covering(unittest.TestCase):
    def test_equal_one_less_and_one_more_at_each_place(self):
        for sample in NAMED:
            many = sample[0]
            for numbers in (some_numbers(many), [BIG] * many):
                self.assertIs(covers(numbers, list(numbers)), True)
                self.assertIs(covers(tuple(numbers), list(numbers)), True)
                self.assertIs(covers(list(numbers), tuple(numbers)), True)
                for place in range(many):
                    more = list(numbers)
                    more[place] += 1
                    self.assertIs(covers(more, numbers), True)
                    self.assertIs(covers(numbers, more), False)
                    less = list(numbers)
                    less[place] -= 1
                    self.assertIs(covers(numbers, less), True)
                    self.assertIs(covers(less, numbers), False)

    def test_more_at_one_does_not_make_good_less_at_another(self):
        self.assertIs(covers([5, 0], [1, 1]), False)
        self.assertIs(covers([0, 5], [1, 1]), False)
        self.assertIs(covers([5, 1], [1, 1]), True)

    def test_of_no_numbers(self):
        self.assertIs(covers([], []), True)


class ArgumentsByName(unittest.TestCase):
    def test_names(self):
        web = made(PAIR)
        self.assertEqual(laying_of(web=web, numbers=[1, 2]), (1, 2))
        self.assertEqual(total(numbers=[1, 2]), 3)
        self.assertEqual(pile(web=web, place=1, many=4), (0, 4))
        self.assertEqual(put(web=web, laying=(1, 2), place=0, many=4), (5, 2))
        self.assertIs(covers(laying=(1, 2), numbers=[1, 3]), False)


class ByHand(unittest.TestCase):
    def test_some(self):
        self.assertEqual(pile(made(ALONE), 0, 0), (0,))
        self.assertEqual(pile(made(BRANCHED), 4, 3), (0, 0, 0, 0, 3, 0, 0))
        self.assertEqual(put(made(BRANCHED), [1, 2, 3, 4, 5, 6, 7], 6, -7), (1, 2, 3, 4, 5, 6, 0))
        self.assertEqual(put(made(ROW), (0, 0, 0, 0), 2, 9), (0, 0, 9, 0))


if __name__ == "__main__":
    unittest.main()
