"""0.2 and 0.3: what is handed in stays as it was, what is told is the asker's own."""

import unittest

from samples import BRANCHED, EVEN, EVEN_STAR, NAMED, ROW, made, mixed_lists

from pebbletoll.always import always, fails, pile_need
from pebbletoll.bringing import bring, gathered, most, shows_most
from pebbletoll.desk import Desk, run
from pebbletoll.enough import bound_by, enough, hardest, least_weights, weighed, weights_stand, worst
from pebbletoll.errors import BadWeb
from pebbletoll.fractions import less, minus, plus, sum_up, times
from pebbletoll.layings import covers, laying_of, pile, put, total
from pebbletoll.shares import even_shares, fairest, second_shares, shows_fairest, worth, yields
from pebbletoll.steps import layings, spent, walked
from pebbletoll.texts import number_text, numbers_text, read_numbers, read_steps, read_web, steps_text, web_text
from pebbletoll.webs import Web, neighbours, toll
from pebbletoll.ways import ahead, beyond, down, price, way
from pebbletoll.wishes import is_met, judged, meeting, standing, standings
from pebbletoll.worsts import is_worst, worst_at, worst_many, worst_number


def lists_told(web):
    """Every list that can be told of a web, in a fixed order."""
    told = []
    for a in range(web.many):
        told += [neighbours(web, a), ahead(web, a), down(web, a)]
        told += [way(web, a, b) for b in range(web.many)]
        told += [beyond(web, a, b) for b in neighbours(web, a)]
    return told


def numbers_told(web):
    prices = [price(web, a, b) for a in range(web.many) for b in range(web.many)]
    return prices + [toll(web, a, b) for a in range(web.many) for b in neighbours(web, a)]


class HandedIn(unittest.TestCase):
    def test_the_list_of_roads_stays_as_it_was(self):
        for many, roads in NAMED:
            handed = list(roads)
            web = Web(many, handed)
            lists_told(web)
            numbers_told(web)
            self.assertEqual(handed, list(roads))

    def test_the_list_of_a_refused_web_stays_as_it_was(self):
        handed = [(0, 1, 2, 3), (1, 0, 3, 2)]
        with self.assertRaises(BadWeb):
            Web(3, handed)
        self.assertEqual(handed, [(0, 1, 2, 3), (1, 0, 3, 2)])

    def test_the_list_may_be_changed_behind(self):
        for many, roads in NAMED:
            handed = list(roads)
            web = Web(many, handed)
            before = (lists_told(web), numbers_told(web))
            handed.append((0, 0, 0, 0))
            handed[0] = (7, 7, 7, 7)
            self.assertEqual(web.roads, tuple(roads))
            self.assertEqual((lists_told(web), numbers_told(web)), before)
            handed.clear()
            self.assertEqual(web.roads, tuple(roads))
            self.assertEqual((lists_told(web), numbers_told(web)), before)

    def test_a_tuple_does_as_well_as_a_list(self):
        for many, roads in NAMED:
            web = Web(many, tuple(roads))
            self.assertEqual(web.roads, tuple(roads))
            self.assertEqual(lists_told(web), lists_told(Web(many, list(roads))))
        with self.assertRaises(BadWeb):
            Web(2, ((0, 0, 2, 2),))

    def test_asking_changes_no_field(self):
        for sample in NAMED:
            web = made(sample)
            before = dict(vars(web))
            lists_told(web)
            numbers_told(web)
            self.assertEqual(vars(web), before)


class Told(unittest.TestCase):
    def test_the_same_question_has_the_same_answer(self):
        for sample in NAMED:
            web = made(sample)
            self.assertEqual(lists_told(web), lists_told(web))
            self.assertEqual(numbers_told(web), numbers_told(web))

    def test_no_two_lists_are_one(self):
        for sample in NAMED:
            web = made(sample)
            told = lists_told(web) + lists_told(web)
            self.assertEqual(len(set(id(some) for some in told)), len(told))

    def test_a_told_list_may_be_changed(self):
        for sample in NAMED:
            web = made(sample)
            before = [list(some) for some in lists_told(web)]
            for some in lists_told(web):
                some.append(99)
                some[0] = -5
                some.reverse()
            self.assertEqual(lists_told(web), before)
            self.assertEqual(web.roads, tuple(sample[1]))

    def test_an_earlier_answer_is_not_changed_by_a_later_question(self):
        web = made(BRANCHED)
        told = lists_told(web)
        before = [list(some) for some in told]
        other = Web(2, [(0, 1, 5, 5)])
        lists_told(other)
        lists_told(web)
        self.assertEqual(told, before)

    def test_webs_do_not_share(self):
        one = made(BRANCHED)
        before = lists_told(one)
        Web(7, [(k, k + 1, 2, 2) for k in range(6)])
        self.assertEqual(lists_told(one), before)


def layings_and_wishes():
    for sample in NAMED:
        for greatest in (5, 10 ** 9, 10 ** 400 - 1):
            numbers = list(mixed_lists(sample[0], greatest, 3))
            for laying, wish in ((numbers[0], numbers[1]), (numbers[1], numbers[2]), (numbers[2], [0] * sample[0])):
                yield made(sample), list(laying), list(wish)


def lists_told_of_layings(web, laying, wish):
    told = []
    for r in (0, web.many - 1):
        told += [gathered(web, laying, r), bring(web, laying, r), standings(web, laying, wish, r)]
        told.append(layings(web, laying, told[1]))
    answer = meeting(web, laying, wish)
    return told + ([answer[1]] if answer[0] == "steps" else [])


def others_told_of_layings(web, laying, wish, steps, table):
    answer = meeting(web, laying, wish)
    return [
        laying_of(web, laying), total(laying), pile(web, 0, 5), put(web, laying, 0, 5), covers(laying, wish),
        walked(web, laying, steps), spent(web, steps), most(web, laying, 0), shows_most(web, laying, 0, table),
        standing(web, laying, wish, 0), is_met(web, laying, wish), answer[0], judged(web, laying, wish, answer),
        judged(web, laying, wish, ("steps", steps)),
    ]


class Layings(unittest.TestCase):
    def test_what_is_handed_in_stays_as_it_was(self):
        for web, laying, wish in layings_and_wishes():
            steps = bring(web, laying, 0)
            table = gathered(web, laying, 0)
            before = [list(laying), list(wish), list(steps), list(table)]
            roads = web.roads
            lists_told_of_layings(web, laying, wish)
            others_told_of_layings(web, laying, wish, steps, table)
            self.assertEqual([laying, wish, steps, table], before)
            self.assertEqual((web.roads, vars(web)), (roads, {"many": web.many, "roads": roads}))

    def test_the_same_question_has_the_same_answer(self):
        for web, laying, wish in layings_and_wishes():
            steps = bring(web, laying, 0)
            table = gathered(web, laying, 0)
            first = others_told_of_layings(web, laying, wish, steps, table)
            lists = lists_told_of_layings(web, laying, wish)
            self.assertEqual(lists_told_of_layings(web, laying, wish), lists)
            self.assertEqual(others_told_of_layings(web, laying, wish, steps, table), first)
            tuples = (tuple(laying), tuple(wish), tuple(steps), tuple(table))
            self.assertEqual(others_told_of_layings(web, *tuples), first)

    def test_no_two_lists_are_one_nor_one_that_was_handed_in(self):
        for web, laying, wish in layings_and_wishes():
            told = lists_told_of_layings(web, laying, wish) + lists_told_of_layings(web, laying, wish)
            told += [laying, wish]
            self.assertEqual(len(set(id(some) for some in told)), len(told))

    def test_told_lists_and_handed_in_ones_may_be_changed(self):
        for web, laying, wish in layings_and_wishes():
            told = lists_told_of_layings(web, laying, wish)
            before = [list(some) for some in told]
            handed = (list(laying), list(wish))
            for some in lists_told_of_layings(web, laying, wish) + [laying, wish]:
                some.append(99)
                some[0] = -5
            self.assertEqual(told, before)
            self.assertEqual(lists_told_of_layings(web, *handed), before)


def others_told_of_enough(web, r, wish, weights, laying):
    """What is told of what is always enough, but lists."""
    return [
        weights_stand(web, r, weights), weighed(weights, laying), bound_by(web, r, 3, weights), enough(web, r, 3),
        worst(web, r, 3), hardest(web, 3), pile_need(web, wish, r), always(web, wish), fails(web, wish),
        is_worst(web, r, 3, laying), worst_many(web, r, 3), worst_many(web, r, 10 ** 400 - 1),
    ]


def wanting():
    """Webs with a place, a wish, weights that stand and a worst laying, all lists of their own."""
    for sample in NAMED + EVEN:
        web = made(sample)
        for r in (0, web.many // 2, web.many - 1):
            for greatest in (5, 10 ** 399):
                wish = [number + (place == r) for place, number in enumerate(next(mixed_lists(web.many, greatest, 1)))]
                yield web, r, wish, least_weights(web, r), list(worst(web, r, 3))


class AlwaysEnough(unittest.TestCase):
    def test_what_is_handed_in_stays_as_it_was(self):
        for web, r, wish, weights, laying in wanting():
            before = [list(wish), list(weights), list(laying)]
            roads = web.roads
            others_told_of_enough(web, r, wish, weights, laying)
            if enough(web, r, 3) <= 10 ** 12:
                worst_number(web, r, 3, laying)
            self.assertEqual([wish, weights, laying], before)
            self.assertEqual((web.roads, vars(web)), (roads, {"many": web.many, "roads": roads}))

    def test_the_same_question_has_the_same_answer(self):
        for web, r, wish, weights, laying in wanting():
            first = others_told_of_enough(web, r, wish, weights, laying)
            self.assertEqual(others_told_of_enough(web, r, wish, weights, laying), first)
            tuples = (tuple(wish), tuple(weights), tuple(laying))
            self.assertEqual(others_told_of_enough(web, r, *tuples), first)

    def test_numbers_of_worst_layings(self):
        for web, r, wish, weights, laying in wanting():
            if enough(web, r, 3) <= 10 ** 12:
                number = worst_many(web, r, 3) - 1
                last = worst_at(web, r, 3, number)
                self.assertEqual(worst_at(web, r, 3, number), last)
                self.assertEqual(worst_number(web, r, 3, list(last)), number)
                self.assertEqual(worst_number(web, r, 3, last), number)

    def test_told_weights_are_the_askers_own(self):
        for web, r, wish, weights, laying in wanting():
            before = list(weights)
            told = others_told_of_enough(web, r, wish, list(weights), laying)
            other = least_weights(web, r)
            self.assertIsNot(other, weights)
            other.append(99)
            other[0] = -5
            self.assertEqual(weights, before)
            self.assertEqual(least_weights(web, r), before)
            handed = (list(wish), list(laying))
            wish.clear()
            laying.clear()
            self.assertEqual(others_told_of_enough(web, r, handed[0], before, handed[1]), told)


def lists_told_of_shares(web):
    """Every list that can be told of fair shares."""
    answer = fairest(web)
    return [even_shares(web), second_shares(web)] + list(answer[1:])


def others_told_of_shares(web, shares, second):
    return [
        [worth(web, shares, place) for place in range(web.many)],
        [yields(web, second, place) for place in range(web.many)],
        shows_fairest(web, shares, second), fairest(web)[0], sum_up(shares), plus(shares[0], second[0]),
        minus(shares[0], second[0]), times(shares[0], second[0]), less(shares[0], second[0]),
    ]


class Shares(unittest.TestCase):
    def test_what_is_handed_in_stays_as_it_was(self):
        for sample in NAMED + EVEN:
            web = made(sample)
            shares, second = even_shares(web), second_shares(web)
            before = (list(shares), list(second))
            first = others_told_of_shares(web, shares, second)
            self.assertEqual((shares, second), before)
            self.assertEqual(vars(web), {"many": sample[0], "roads": tuple(sample[1])})
            self.assertEqual(others_told_of_shares(web, shares, second), first)
            self.assertEqual(others_told_of_shares(web, tuple(shares), tuple(second)), first)

    def test_no_two_lists_are_one(self):
        for sample in NAMED + EVEN:
            web = made(sample)
            told = lists_told_of_shares(web) + lists_told_of_shares(web)
            self.assertEqual(len(set(id(some) for some in told)), len(told))

    def test_a_told_list_may_be_changed(self):
        for sample in NAMED + EVEN:
            web = made(sample)
            told = lists_told_of_shares(web)
            before = [list(some) for some in told]
            for some in lists_told_of_shares(web):
                some.append((9, 1))
                some[0] = (-5, 1)
            self.assertEqual(told, before)
            self.assertEqual(lists_told_of_shares(web), before)


class Texts(unittest.TestCase):
    def test_what_is_handed_in_stays_as_it_was(self):
        numbers, steps = [7, 0, 12], [(0, 1, 5), (2, 0, 10)]
        for turn in range(2):
            self.assertEqual(numbers_text(numbers), "7 0 12")
            self.assertEqual(steps_text(steps), "0 1 5 / 2 0 10")
            self.assertEqual((numbers, steps), ([7, 0, 12], [(0, 1, 5), (2, 0, 10)]))
        web = made(ROW)
        self.assertEqual(web_text(web), web_text(web))
        self.assertEqual(vars(web), {"many": 4, "roads": tuple(ROW[1])})

    def test_told_lists_are_the_askers_own(self):
        for read, text in ((read_numbers, ""), (read_numbers, "7 0"), (read_steps, "."), (read_steps, "0 1 5")):
            first, second = read(text), read(text)
            before = list(first)
            self.assertIsNot(first, second)
            second.append(9)
            self.assertEqual((first, read(text)), (before, before))

    def test_read_webs_do_not_share(self):
        first, second = read_web(web_text(made(ROW))), read_web(web_text(made(EVEN_STAR)))
        self.assertEqual((first.many, first.roads), (4, tuple(ROW[1])))
        self.assertEqual((second.many, second.roads), (4, tuple(EVEN_STAR[1])))

    def test_what_is_told_may_be_written(self):
        web = made(ROW)
        for told in (enough(web, 0, 10 ** 400 - 1), pile_need(web, (10 ** 400 - 1,) * 4, 3)):
            self.assertEqual(number_text(told), str(told))
            self.assertEqual(numbers_text([told, told + 1]), f"{told} {told + 1}")


class AtTheDesk(unittest.TestCase):
    def test_the_web_is_kept_as_a_copy(self):
        web = made(ROW)
        desk = Desk(web)
        rows = ("put 0 50", "want 3 1", "most 3", "meet", "always", "fails", "hardest 4", "many 0 3")
        first = [desk.answer(row) for row in rows]
        other = made(EVEN_STAR)
        desk = Desk(web)
        web.many, web.roads = other.many, other.roads
        self.assertEqual([desk.answer(row) for row in rows], first)

    def test_the_web_stays_as_it_was(self):
        web = made(ROW)
        desk = Desk(web)
        for row in ("put 0 50", "want 3 1", "step 0 1 2", "meet", "fails", "back", "x", "put 9 9"):
            desk.answer(row)
        self.assertEqual(vars(web), {"many": 4, "roads": tuple(ROW[1])})

    def test_what_is_told_is_not_changed_by_later_deeds(self):
        desk = Desk(made(ROW))
        desk.put(0, 5)
        desk.want(1, 6)
        laying, wish = desk.laying(), desk.wish()
        desk.put(0, 5)
        desk.want(1, 7)
        desk.step(0, 1, 1)
        self.assertEqual((laying, wish), ((5, 0, 0, 0), (0, 6, 0, 0)))
        for turn in range(3):
            desk.back()
        self.assertEqual((desk.laying(), desk.wish()), (laying, wish))

    def test_a_question_is_no_deed_and_has_the_same_answer_each_time(self):
        desk = Desk(made(BRANCHED))
        for row in ("put 3 1000", "put 4 77", "want 5 2", "want 2 1"):
            desk.answer(row)
        rows = ["laying", "wish", "meet", "always", "fails", "hardest 3"]
        rows += [f"{word} {place}" for word in ("most", "bring", "stands") for place in range(7)]
        rows += [f"{word} {place} 3" for word in ("enough", "worst", "many") for place in range(7)]
        first = [desk.answer(row) for row in rows]
        self.assertEqual([desk.answer(row) for row in rows], first)
        self.assertEqual(desk.deeds(), 4)
        text = web_text(made(BRANCHED)) + "\n\n" + "\n".join(rows)
        self.assertEqual(run(text), run(text))


if __name__ == "__main__":
    unittest.main()
