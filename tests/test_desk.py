"""Stage 11: the desk."""

import re
import unittest
from random import Random

from samples import (
    ALONE, BIG_EVEN_STAR, BRANCHED, EVEN, EVEN_STAR, LONG_ROW, NAMED, NO_NUMBERS, ROW, STAR, made, mixed_lists,
    slow_gathered, slow_standings, tolls, wrong_places,
)

from pebbletoll.always import always, fails
from pebbletoll.bringing import bring, most
from pebbletoll.desk import Desk, run
from pebbletoll.enough import enough, hardest, worst
from pebbletoll.errors import BadLaying, BadStep, BadText, BadWish, NoDeed, NoPlace, NoWorst
from pebbletoll.steps import walked
from pebbletoll.texts import number_text, numbers_text, read_numbers, read_steps, steps_text, web_text
from pebbletoll.webs import Web
from pebbletoll.wishes import is_met, judged, meeting, standing
from pebbletoll.worsts import is_worst, worst_many

HUGE = 10 ** 399
NINES = "9" * 60
NUMBER = "(?:0|[1-9][0-9]{0,59})"
BEHIND = {
    "put": 2, "want": 2, "step": 3, "back": 0, "laying": 0, "wish": 0, "most": 1, "bring": 1, "stands": 1, "meet": 0,
    "enough": 2, "hardest": 1, "worst": 2, "many": 2, "always": 0, "fails": 0,
}
FORMS = [re.compile(word + f" {NUMBER}" * many) for word, many in BEHIND.items()]
# 0 - 1 - 2 with a fourth place at 1
TEXT = "web 4\nroad 0 1 2 3\nroad 1 2 5 7\nroad 1 3 4 6"


def shown(desk):
    return (desk.laying(), desk.wish(), desk.deeds())


def four():
    return Desk(Web(4, [(0, 1, 2, 3), (1, 2, 5, 7), (1, 3, 4, 6)]))


def filled(sample, laying, wish):
    desk = Desk(made(sample))
    for place in range(sample[0]):
        desk.put(place, laying[place])
        desk.want(place, wish[place])
    return desk


def filled_desks():
    for sample in NAMED + EVEN:
        for most_laid, most_wanted in ((5, 3), (10 ** 9, 50), (40, 10 ** 12), (10 ** 60 - 1, 10 ** 60 - 1)):
            numbers = list(mixed_lists(sample[0], most_laid, 2)), list(mixed_lists(sample[0], most_wanted, 3))
            for laying, wish in zip(numbers[0], numbers[1][1:]):
                yield sample, laying, wish, filled(sample, laying, wish)


class Deeds(unittest.TestCase):
    def test_at_first(self):
        for sample in NAMED:
            noughts = (0,) * sample[0]
            self.assertEqual(shown(Desk(made(sample))), (noughts, noughts, 0))

    def test_tuples_are_told(self):
        desk = four()
        for turn in range(3):
            self.assertEqual([value.__class__ for value in shown(desk)], [tuple, tuple, int])
            desk.put(1, 8)
            desk.want(2, 1)
            desk.step(1, 2, 1)

    def test_put(self):
        desk = four()
        self.assertIsNone(desk.put(2, 5))
        self.assertEqual(shown(desk), ((0, 0, 5, 0), (0, 0, 0, 0), 1))
        desk.put(2, 3)
        self.assertEqual(shown(desk), ((0, 0, 8, 0), (0, 0, 0, 0), 2))
        desk.put(0, 0)
        self.assertEqual(shown(desk), ((0, 0, 8, 0), (0, 0, 0, 0), 3))
        desk.put(3, HUGE)
        self.assertEqual(shown(desk), ((0, 0, 8, HUGE), (0, 0, 0, 0), 4))

    def test_want(self):
        desk = four()
        self.assertIsNone(desk.want(2, 5))
        self.assertEqual(shown(desk), ((0, 0, 0, 0), (0, 0, 5, 0), 1))
        desk.want(2, 3)
        self.assertEqual(shown(desk), ((0, 0, 0, 0), (0, 0, 3, 0), 2))
        desk.want(0, HUGE)
        desk.want(2, 0)
        desk.want(1, 0)
        self.assertEqual(shown(desk), ((0, 0, 0, 0), (HUGE, 0, 0, 0), 5))

    def test_step(self):
        desk = four()
        desk.put(0, 9)
        self.assertIsNone(desk.step(0, 1, 4))
        self.assertEqual(shown(desk), ((1, 4, 0, 0), (0, 0, 0, 0), 2))
        desk.step(1, 3, 1)
        self.assertEqual(shown(desk), ((1, 0, 0, 1), (0, 0, 0, 0), 3))
        desk.put(2, 7 * HUGE)
        desk.step(2, 1, HUGE)
        self.assertEqual(shown(desk), ((1, HUGE, 0, 1), (0, 0, 0, 0), 5))

    def test_each_deed_is_taken_back(self):
        desk = four()
        states = [shown(desk)]
        for deed in (
            lambda: desk.put(0, 9), lambda: desk.want(3, 2), lambda: desk.step(0, 1, 4), lambda: desk.put(1, 0),
            lambda: desk.want(3, 2), lambda: desk.step(1, 3, 1), lambda: desk.want(3, 0), lambda: desk.put(0, 1),
        ):
            deed()
            states.append(shown(desk))
        self.assertEqual(len(states), 9)
        while len(states) > 1:
            self.assertEqual(shown(desk), states.pop())
            self.assertIsNone(desk.back())
        self.assertEqual(shown(desk), states[0])
        self.assertEqual(shown(desk), ((0, 0, 0, 0), (0, 0, 0, 0), 0))

    def test_no_deed_is_left(self):
        desk = four()
        for turn in range(3):
            with self.assertRaises(NoDeed):
                desk.back()
            self.assertEqual(shown(desk), ((0, 0, 0, 0), (0, 0, 0, 0), 0))
        desk.put(0, 9)
        desk.back()
        with self.assertRaises(NoDeed):
            desk.back()
        desk.want(0, 9)
        self.assertEqual(shown(desk), ((0, 0, 0, 0), (9, 0, 0, 0), 1))

    def test_a_taking_back_is_no_deed(self):
        desk = four()
        desk.put(0, 1)
        desk.put(0, 2)
        desk.back()
        self.assertEqual(shown(desk), ((1, 0, 0, 0), (0, 0, 0, 0), 1))
        desk.put(0, 5)
        self.assertEqual(shown(desk), ((6, 0, 0, 0), (0, 0, 0, 0), 2))
        desk.back()
        desk.back()
        self.assertEqual(shown(desk), ((0, 0, 0, 0), (0, 0, 0, 0), 0))

    def test_many_deeds_there_and_back(self):
        for sample in (ALONE, ROW, STAR, BRANCHED, EVEN_STAR, LONG_ROW):
            source = Random(2)
            desk = Desk(made(sample))
            states = [shown(desk)]
            for turn in range(300):
                self.deed_of_chance(desk, sample, states, source)
                self.assertEqual(shown(desk), states[-1])
            while len(states) > 1:
                desk.back()
                states.pop()
                self.assertEqual(shown(desk), states[-1])
            with self.assertRaises(NoDeed):
                desk.back()

    def deed_of_chance(self, desk, sample, states, source):
        """One deed done at the desk, and what it comes to reckoned here."""
        laying, wish, deeds = states[-1]
        kind = source.choice(("put", "want", "step", "step", "back"))
        place = source.randrange(sample[0])
        number = source.randrange(source.choice((2, 60, 10 ** 60)))
        can = [(a, b) for (a, b), toll in tolls(sample).items() if laying[a] >= toll]
        if kind == "put":
            desk.put(place, number)
            states.append((laying[:place] + (laying[place] + number,) + laying[place + 1:], wish, deeds + 1))
        elif kind == "want":
            desk.want(place, number)
            states.append((laying, wish[:place] + (number,) + wish[place + 1:], deeds + 1))
        elif kind == "step" and can:
            a, b = source.choice(can)
            toll = tolls(sample)[(a, b)]
            times = source.randint(1, laying[a] // toll)
            counts = list(laying)
            counts[a] -= times * toll
            counts[b] += times
            desk.step(a, b, times)
            states.append((tuple(counts), wish, deeds + 1))
        elif deeds > 0:
            desk.back()
            states.pop()

    def test_two_desks_of_one_web(self):
        web = made(ROW)
        one, other = Desk(web), Desk(web)
        one.put(0, 5)
        one.want(1, 5)
        self.assertEqual(shown(other), ((0,) * 4, (0,) * 4, 0))
        self.assertEqual((web.many, web.roads), (4, tuple(ROW[1])))

    def test_arguments_by_name(self):
        desk = Desk(web=made(ROW))
        desk.put(many=9, place=0)
        desk.want(many=2, place=3)
        desk.step(times=2, b=1, a=0)
        self.assertEqual(shown(desk), ((5, 2, 0, 0), (0, 0, 0, 2), 3))
        self.assertEqual(desk.answer(row="laying"), "5 2 0 0")
        self.assertEqual(run(text="web 1\n\nlaying"), "0")


class RefusedDeeds(unittest.TestCase):
    def begun(self):
        desk = four()
        desk.put(0, 9)
        desk.want(2, 4)
        desk.step(0, 1, 2)
        return desk

    def refused(self, kind, deed, *numbers):
        desk = self.begun()
        before = shown(desk)
        with self.assertRaises(kind) as caught:
            getattr(desk, deed)(*numbers)
        self.assertEqual(shown(desk), before)
        for turn in range(3):
            desk.back()
        self.assertEqual(shown(desk), ((0, 0, 0, 0), (0, 0, 0, 0), 0))
        return caught.exception

    def test_no_place(self):
        for place in wrong_places(4):
            for number in (0, 5, HUGE, -1, -HUGE):
                self.refused(NoPlace, "put", place, number)
                self.refused(NoPlace, "want", place, number)

    def test_numbers_below_0(self):
        for place in range(4):
            for number in (-1, -2, -HUGE):
                self.refused(BadLaying, "put", place, number)
                self.refused(BadWish, "want", place, number)

    def test_a_put_of_less_than_lies_there_is_refused_as_well(self):
        desk = self.begun()
        self.assertEqual(desk.laying()[0], 5)
        self.refused(BadLaying, "put", 0, -5)
        self.refused(BadLaying, "put", 0, -1)

    def test_steps_of_any_numbers(self):
        places = [0, 1, 2, 3] + list(wrong_places(4))
        for a in places:
            for b in places:
                for times in (0, -1, -HUGE, 3, HUGE, 10 ** 5000):
                    self.assertEqual(self.refused(BadStep, "step", a, b, times).at, 0)

    def test_steps_between_places_that_are_no_neighbours(self):
        for a, b in ((0, 0), (1, 1), (0, 2), (2, 3), (3, 0), (0, -1), (1, 4), (-4, 1), (4, 1)):
            self.assertEqual(self.refused(BadStep, "step", a, b, 1).at, 0)

    def test_too_few_pebbles(self):
        # 5 lie at the place 0, 2 at 1.
        self.assertEqual(self.refused(BadStep, "step", 0, 1, 3).at, 0)
        self.assertEqual(self.refused(BadStep, "step", 1, 0, 1).at, 0)
        self.assertEqual(self.refused(BadStep, "step", 3, 1, 1).at, 0)
        desk = self.begun()
        desk.step(0, 1, 2)
        self.assertEqual(desk.laying(), (1, 4, 0, 0))

    def test_a_refused_taking_back(self):
        desk = self.begun()
        for turn in range(3):
            desk.back()
        with self.assertRaises(NoDeed):
            desk.back()
        self.assertEqual(shown(desk), ((0, 0, 0, 0), (0, 0, 0, 0), 0))


class Rows(unittest.TestCase):
    def test_deeds(self):
        desk = four()
        for row, laying, wish, deeds in (
            ("put 0 9", (9, 0, 0, 0), (0, 0, 0, 0), 1),
            ("want 3 2", (9, 0, 0, 0), (0, 0, 0, 2), 2),
            ("step 0 1 4", (1, 4, 0, 0), (0, 0, 0, 2), 3),
            ("put 3 0", (1, 4, 0, 0), (0, 0, 0, 2), 4),
            ("back", (1, 4, 0, 0), (0, 0, 0, 2), 3),
            ("back", (9, 0, 0, 0), (0, 0, 0, 2), 2),
            ("back", (9, 0, 0, 0), (0, 0, 0, 0), 1),
            ("back", (0, 0, 0, 0), (0, 0, 0, 0), 0),
        ):
            self.assertEqual(desk.answer(row), "done")
            self.assertEqual(shown(desk), (laying, wish, deeds))
        self.assertEqual(desk.answer("back"), "refused deed")

    def test_questions_by_hand(self):
        desk = four()
        self.assertEqual(desk.answer("laying"), "0 0 0 0")
        for row in ("put 0 9", "put 2 15", "put 3 1", "want 3 2"):
            self.assertEqual(desk.answer(row), "done")
        for row, answer in (
            ("laying", "9 0 15 1"), ("wish", "0 0 0 2"), ("most 1", "6"), ("most 3", "2"), ("bring 1", "2 1 2 / 0 1 4"),
            ("stands 1", "2"), ("stands 2", "15"), ("meet", "steps 2 1 2 / 0 1 2 / 1 3 1"), ("enough 1 2", "20"),
            ("hardest 2", "61 2"), ("worst 1 2", "1 0 13 5"), ("many 1 2", "1"), ("always", "57"),
            ("fails", "1 0 55 0"),
        ):
            self.assertEqual(desk.answer(row), answer, row)
        self.assertEqual(shown(desk), ((9, 0, 15, 1), (0, 0, 0, 2), 4))

    def test_a_standing_below_0_and_lacks(self):
        desk = four()
        for row in ("put 0 9", "put 2 15", "put 3 1", "want 3 3"):
            desk.answer(row)
        self.assertEqual(desk.answer("meet"), "lack 3 2 13 1")
        self.assertEqual([desk.answer(f"stands {place}") for place in range(4)], ["-3", "-2", "-13", "-1"])

    def test_no_step_is_due(self):
        desk = four()
        self.assertEqual(desk.answer("meet"), "steps .")
        self.assertEqual(desk.answer("bring 2"), ".")
        self.assertEqual(desk.answer("stands 2"), "0")
        desk.answer("put 1 3")
        desk.answer("want 1 3")
        self.assertEqual(desk.answer("meet"), "steps .")
        self.assertEqual(desk.answer("bring 1"), ".")

    def test_where_nothing_is_wanted(self):
        desk = four()
        self.assertEqual(desk.answer("always"), "0")
        self.assertEqual(desk.answer("fails"), "refused none")
        desk.answer("put 1 3")
        desk.answer("want 1 3")
        self.assertEqual(desk.answer("always"), str(always(four().web, (0, 3, 0, 0))))
        desk.answer("want 1 0")
        self.assertEqual(desk.answer("fails"), "refused none")
        self.assertEqual(desk.answer("always"), "0")

    def test_what_the_desk_holds(self):
        for sample, laying, wish, desk in filled_desks():
            web = made(sample)
            self.assertEqual(desk.answer("laying"), " ".join([str(number) for number in laying]))
            self.assertEqual(desk.answer("wish"), " ".join([str(number) for number in wish]))
            for place in (0, sample[0] // 2, sample[0] - 1):
                self.assertEqual(desk.answer(f"most {place}"), str(slow_gathered(sample, laying, place)[place]))
                over = slow_standings(sample, laying, wish, place)[place]
                self.assertEqual(desk.answer(f"stands {place}"), str(over))
                row = desk.answer(f"bring {place}")
                steps = [] if row == "." else [tuple(map(int, part.split())) for part in row.split(" / ")]
                self.assertEqual(walked(web, laying, steps)[place], most(web, laying, place))
                self.assertEqual(row, steps_text(bring(web, laying, place)))
            self.meeting_is_right(web, laying, wish, desk.answer("meet"))
            self.assertEqual(desk.answer("always"), number_text(always(web, wish)))
            if sum(wish):
                self.assertEqual(desk.answer("fails"), numbers_text(fails(web, wish)))
            self.assertEqual(desk.deeds(), 2 * sample[0])

    def meeting_is_right(self, web, laying, wish, row):
        word, rest = row.split(" ", 1)
        if word == "steps":
            steps = [] if rest == "." else [tuple(map(int, part.split())) for part in rest.split(" / ")]
            answer = ("steps", steps)
        else:
            answer = (word, tuple(map(int, rest.split())))
        self.assertIs(judged(web, laying, wish, answer), True)
        self.assertEqual(answer, meeting(web, laying, wish))
        self.assertEqual(answer[0] == "steps", is_met(web, laying, wish))

    def test_of_the_web(self):
        for sample in NAMED + EVEN:
            web = made(sample)
            desk = Desk(web)
            for wanted in (1, 2, 7, 10 ** 6, 10 ** 60 - 1):
                self.assertEqual(desk.answer(f"hardest {wanted}"), "{} {}".format(*hardest(web, wanted)))
                for place in (0, sample[0] // 2, sample[0] - 1):
                    self.assertEqual(desk.answer(f"enough {place} {wanted}"), str(enough(web, place, wanted)))
                    self.assertEqual(desk.answer(f"many {place} {wanted}"), str(worst_many(web, place, wanted)))
                    laying = tuple(map(int, desk.answer(f"worst {place} {wanted}").split()))
                    self.assertEqual(laying, worst(web, place, wanted))
                    self.assertIs(is_worst(web, place, wanted, laying), True)
            self.assertEqual(desk.deeds(), 0)

    def test_numbers_of_many_figures(self):
        desk = Desk(made(BIG_EVEN_STAR))
        self.assertEqual(desk.answer(f"many 23 {NINES}"), str(worst_many(made(BIG_EVEN_STAR), 23, 10 ** 60 - 1)))
        self.assertGreater(len(desk.answer(f"many 23 {NINES}")), 1000)
        desk = Desk(made(ALONE))
        desk.put(0, 10 ** 5000)
        self.assertEqual(desk.answer("laying"), "1" + "0" * 5000)
        self.assertEqual(desk.answer("most 0"), "1" + "0" * 5000)
        desk.want(0, 2 * 10 ** 5000)
        self.assertEqual(desk.answer("stands 0"), "-1" + "0" * 5000)
        self.assertEqual(desk.answer("meet"), "lack 1" + "0" * 5000)
        self.assertEqual(desk.answer("fails"), "1" + "9" * 5000)

    def test_the_last_numbers_that_can_be_written(self):
        desk = Desk(made(ALONE))
        self.assertEqual(desk.answer(f"put 0 {NINES}"), "done")
        self.assertEqual(desk.answer("laying"), NINES)
        self.assertEqual(desk.answer(f"put 0 {NINES}"), "done")
        self.assertEqual(desk.answer("laying"), "1" + "9" * 59 + "8")
        self.assertEqual(desk.answer(f"put 0 1{NINES}"), "refused row")


class Refusing(Desk):
    def __init__(self, web, error):
        Desk.__init__(self, web)
        self.error = error

    def put(self, place, many):
        raise self.error


class RefusedRows(unittest.TestCase):
    def refused(self, row, word):
        desk = four()
        for deed in ("put 0 9", "want 2 4", "step 0 1 2"):
            self.assertEqual(desk.answer(deed), "done")
        before = shown(desk)
        self.assertEqual(desk.answer(row), "refused " + word, row)
        self.assertEqual(shown(desk), before)
        self.assertEqual([desk.answer("back") for turn in range(4)], ["done"] * 3 + ["refused deed"])
        self.assertEqual(shown(desk), ((0, 0, 0, 0), (0, 0, 0, 0), 0))

    def test_words_that_are_none(self):
        for row in (
            "", " ", "  ", "x", "Put 0 1", "PUT 0 1", "puts 0 1", "puto 1", "get 0 1", "1", "0 1", "web 1",
            "road 0 1 2 2", "deeds", "answer laying", "stand 0", "standing 0", "fail", "done", "refused row", ".", "/",
            "enoughs 0 1", "worst_many 0 1", "number 0", "run", "Laying", "lay", "layingwish", "keep 0 0",
            "meet meet", "put put 0 1",
        ):
            self.refused(row, "row")

    def test_numbers_too_many_or_too_few(self):
        for word, many in BEHIND.items():
            for other in range(6):
                if other != many:
                    self.refused(" ".join([word] + ["1"] * other), "row")

    def test_blanks(self):
        for word, many in BEHIND.items():
            row = " ".join([word] + ["1"] * many)
            for wrong in (" " + row, row + " ", "  " + row, row + "  "):
                self.refused(wrong, "row")
            if many > 0:
                self.refused(row.replace(" ", "  ", 1), "row")
                self.refused(row[:-1] + " 1", "row")
                self.refused(row[:-1], "row")

    def test_numbers_that_are_not_so_written(self):
        for word, many in BEHIND.items():
            for at in range(many):
                for wrong in NO_NUMBERS:
                    self.refused(" ".join([word] + ["1"] * at + [wrong] + ["1"] * (many - 1 - at)), "row")

    def test_a_wrong_row_goes_ahead_of_what_else_is_to_be_refused(self):
        for row in (
            "put 9 -1", "want 9 01", "step 9 9 x", "enough 9 00", "most 09", "worst 9", "many 9 0 0", "hardest -1",
        ):
            self.refused(row, "row")

    def test_no_place(self):
        for place in ("4", "5", "99", NINES):
            for word in ("most", "bring", "stands"):
                self.refused(f"{word} {place}", "place")
            for word in ("put", "want", "enough", "worst", "many"):
                for number in ("1", "0", NINES):
                    self.refused(f"{word} {place} {number}", "place")

    def test_wishes(self):
        for row in ("enough 0 0", "worst 3 0", "many 1 0", "hardest 0"):
            self.refused(row, "wish")

    def test_steps(self):
        for row in (
            "step 0 1 3", "step 0 1 0", "step 0 0 1", "step 0 2 1", "step 4 0 1", "step 1 4 1", "step 9 9 0",
            f"step 0 1 {NINES}", f"step {NINES} {NINES} {NINES}", "step 2 1 1", "step 1 0 1",
        ):
            self.refused(row, "step")

    def test_deeds_and_none(self):
        desk = four()
        self.assertEqual(desk.answer("back"), "refused deed")
        self.assertEqual(desk.answer("fails"), "refused none")
        self.assertEqual(shown(desk), ((0, 0, 0, 0), (0, 0, 0, 0), 0))

    def test_each_refusal_has_its_word(self):
        # No row can hold a number below 0, so a desk is made here that refuses each put.
        for error, word in (
            (BadText(1), "row"), (NoPlace("so"), "place"), (BadLaying("so"), "laying"), (BadWish("so"), "wish"),
            (BadStep(0), "step"), (NoDeed("so"), "deed"), (NoWorst("so"), "none"),
        ):
            self.assertEqual(Refusing(made(ROW), error).answer("put 0 1"), "refused " + word)

    def test_rows_of_chance(self):
        source = Random(12)
        seen = {}
        for turn in range(6000):
            word = source.choice(list(BEHIND))
            numbers = [str(source.choice((0, 1, 3, 4, 60, 10 ** 59))) for k in range(BEHIND[word])]
            row = " ".join([word] + numbers)
            at = source.randint(0, len(row))
            sign = source.choice("0123 -x")
            row = source.choice((row, row[:at] + sign + row[at:], row[:at] + row[at + 1:]))
            answer = four().answer(row)
            right = any(form.fullmatch(row) for form in FORMS)
            self.assertEqual(answer != "refused row", right, row)
            seen[(row.split(" ")[0], right)] = answer
        for word in BEHIND:
            self.assertIn((word, True), seen)
            self.assertIn((word, False), seen)


class Run(unittest.TestCase):
    def test_a_whole_text(self):
        rows = (
            "put 0 9", "put 2 15", "put 3 1", "laying", "most 1", "bring 1", "want 3 2", "meet", "want 3 3", "meet",
            "stands 1", "step 0 1 4", "laying", "back", "back", "wish", "hardest 2", "x", "put 4 1", "step 0 1 0",
            "fails",
        )
        answers = (
            "done", "done", "done", "9 0 15 1", "6", "2 1 2 / 0 1 4", "done", "steps 2 1 2 / 0 1 2 / 1 3 1", "done",
            "lack 3 2 13 1", "-2", "done", "1 4 15 1", "done", "done", "0 0 0 2", "61 2", "refused row",
            "refused place", "refused step", "1 0 55 0",
        )
        self.assertEqual(run(TEXT + "\n\n" + "\n".join(rows)), "\n".join(answers))

    def test_one_row(self):
        self.assertEqual(run("web 1\n\nlaying"), "0")
        self.assertEqual(run("web 1\n\nback"), "refused deed")

    def test_no_empty_row(self):
        for text in ("web 1", TEXT, "web 1\nlaying", TEXT + "\nlaying", "x", "web 1\n \nlaying", "web 1\n laying"):
            self.assertEqual(run(text), "refused web")

    def test_nothing_behind_the_empty_row(self):
        self.assertEqual(run("web 1\n"), "")
        self.assertEqual(run(TEXT + "\n"), "")
        self.assertEqual(run(web_text(made(LONG_ROW)) + "\n"), "")

    def test_empty_rows_behind_the_first_one(self):
        self.assertEqual(run("web 1\n\n"), "refused row")
        self.assertEqual(run("web 1\n\n\n"), "refused row\nrefused row")
        self.assertEqual(run("web 1\n\n\nlaying"), "refused row\n0")
        self.assertEqual(run("web 1\n\nput 0 3\n\nlaying\n"), "done\nrefused row\n3\nrefused row")

    def test_rows_that_are_no_webs(self):
        for text in (
            "", "\n", "\n\n", "\nlaying", "\nweb 1\n\nlaying", " \n\nlaying", "web\n\nlaying", "web 0\n\nlaying",
            "web 25\n\nlaying", f"web {NINES}\n\nlaying", f"web {NINES}9\n\nlaying", "web 2\n\nroad 0 1 2 2\n\nlaying",
            "web 2\nroad 0 1 2\n\nlaying", "web 2\nroad 0 0 2 2\n\nlaying", "web 2\nroad 0 1 1 2\n\n",
            "web 2\nroad 0 1 2 2\nroad 0 1 2 2\n\nlaying", "web 1 \n\nlaying", "Web 1\n\nlaying", "laying\n\nlaying",
            TEXT + "\nlaying\n\nlaying", "web 0\n", "web 2\n", "web 3\nroad 0 1 2 2\nroad 1 0 2 2\n",
        ):
            self.assertEqual(run(text), "refused web", repr(text))

    def test_it_answers_as_a_desk_does(self):
        source = Random(13)
        for sample in (ALONE, ROW, EVEN_STAR, BRANCHED, LONG_ROW):
            desk = Desk(made(sample))
            rows = []
            for turn in range(120):
                word = source.choice(list(BEHIND) + ["put", "want", "put", ""])
                rows.append(" ".join([word] + [str(source.randrange(9)) for k in range(BEHIND.get(word, 0))]))
            text = web_text(made(sample)) + "\n\n" + "\n".join(rows)
            expected = "\n".join([desk.answer(row) for row in rows])
            self.assertEqual(run(text), expected)
            self.assertEqual(run(text), expected)

    def test_each_text_has_a_desk_of_its_own(self):
        self.assertEqual(run("web 1\n\nput 0 5\nlaying"), "done\n5")
        self.assertEqual(run("web 1\n\nlaying\nwish\nback"), "0\n0\nrefused deed")

    def test_a_told_answer_can_be_read_again(self):
        web = made(BRANCHED)
        rows = run(web_text(web) + "\n\nput 3 1000\nput 4 77777\nbring 6\nworst 6 5").split("\n")
        laying = (0, 0, 0, 1000, 77777, 0, 0)
        self.assertEqual(walked(web, laying, read_steps(rows[2]))[6], most(web, laying, 6))
        self.assertIs(is_worst(web, 6, 5, read_numbers(rows[3])), True)
        self.assertEqual(standing(web, read_numbers(rows[3]), (0,) * 7, 6), 4)


if __name__ == "__main__":
    unittest.main()
