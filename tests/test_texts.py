"""Stage 10: texts."""

import re
import unittest
from random import Random

from samples import ALONE, EVEN, LONG_ROW, NAMED, NO_NUMBERS, PAIR, ROW, all_webs, made

from pebbletoll.errors import BadText, BadWeb
from pebbletoll.texts import number_text, numbers_text, read_numbers, read_steps, read_web, steps_text, web_text

NUMBER = r"(?:0|[1-9][0-9]{0,59})"
WEB_ROW = re.compile(f"web ({NUMBER})")
ROAD_ROW = re.compile(f"road ({NUMBER}) ({NUMBER}) ({NUMBER}) ({NUMBER})")
STEP = f"{NUMBER} {NUMBER} {NUMBER}"
STEPS_ROW = re.compile(rf"\.|{STEP}(?: / {STEP})*")
NUMBERS_ROW = re.compile(f"(?:{NUMBER}(?: {NUMBER})*)?")

NINES = "9" * 60


def outcome(read, text):
    """What is read, or the class of the refusal, with the number of the row."""
    try:
        found = read(text)
    except BadText as error:
        return ("text", error.at)
    except BadWeb:
        return ("web",)
    if read == read_web:
        return ("read", found.many, found.roads)
    return ("read", found)


def slow_read_web(text):
    """The outcome for a text of a web, its rows looked at one by one."""
    rows = text.split("\n")
    first = WEB_ROW.fullmatch(rows[0])
    if not first:
        return ("text", 1)
    many = int(first[1])
    due = many - 1 if 1 <= many <= 24 else 0
    roads = []
    for at in range(2, due + 2):
        found = ROAD_ROW.fullmatch(rows[at - 1]) if at <= len(rows) else None
        if not found:
            return ("text", at)
        roads.append(tuple(int(word) for word in found.groups()))
    if len(rows) > due + 1:
        return ("text", due + 2)
    try:
        return ("read", many, made((many, roads)).roads)
    except BadWeb:
        return ("web",)


def slow_read_row(form, text):
    rows = text.split("\n")
    if not form.fullmatch(rows[0]):
        return ("text", 1)
    return ("text", 2) if len(rows) > 1 else ("read",)


def spoilt(text, source):
    """The text with one or two small changes."""
    for turn in range(source.randint(1, 2)):
        at = source.randint(0, len(text))
        sign = source.choice("0123456789  \n\n/.-x")
        behind = source.choice((sign + text[at:], text[at + 1:], sign + text[at + 1:]))
        text = text[:at] + behind
    return text


class Refusing(unittest.TestCase):
    def refused(self, read, text, at):
        with self.assertRaises(BadText) as caught:
            read(text)
        self.assertEqual(caught.exception.at, at, repr(text))


class Written(unittest.TestCase):
    def test_a_number(self):
        edges = [10 ** 18 - 1, 10 ** 18, 10 ** 18 + 1, 10 ** 36 - 1, 10 ** 36, 10 ** 59, 10 ** 60 - 1]
        for number in list(range(1001)) + edges:
            self.assertEqual(number_text(number), str(number))

    def test_a_number_of_many_figures(self):
        source = Random(3)
        for figures in list(range(1, 130)) + [400, 1000, 4000]:
            for number in (10 ** figures, 10 ** figures - 1, source.randrange(10 ** figures)):
                self.assertEqual(number_text(number), str(number))

    def test_a_number_of_more_figures_than_python_writes_at_once(self):
        self.assertEqual(number_text(10 ** 5000), "1" + "0" * 5000)
        self.assertEqual(number_text(10 ** 5000 - 1), "9" * 5000)
        self.assertEqual(number_text(10 ** 9999 + 7), "1" + "0" * 9998 + "7")
        self.assertEqual(number_text((10 ** 9000 - 1) // 9 * 4), "4" * 9000)

    def test_numbers(self):
        self.assertEqual(numbers_text([]), "")
        self.assertEqual(numbers_text(()), "")
        self.assertEqual(numbers_text([0]), "0")
        self.assertEqual(numbers_text([7, 0, 12]), "7 0 12")
        self.assertEqual(numbers_text((7, 0, 12)), "7 0 12")
        self.assertEqual(numbers_text([10 ** 5000, 3]), "1" + "0" * 5000 + " 3")

    def test_a_web(self):
        self.assertEqual(web_text(made(ALONE)), "web 1")
        self.assertEqual(web_text(made(PAIR)), "web 2\nroad 1 0 2 1000000")
        self.assertEqual(web_text(made(ROW)), "web 4\nroad 0 1 2 3\nroad 2 1 5 7\nroad 2 3 11 13")

    def test_steps(self):
        self.assertEqual(steps_text([]), ".")
        self.assertEqual(steps_text(()), ".")
        self.assertEqual(steps_text([(0, 1, 5)]), "0 1 5")
        self.assertEqual(steps_text([(0, 1, 5), (2, 0, 10), (0, 0, 0)]), "0 1 5 / 2 0 10 / 0 0 0")
        self.assertEqual(steps_text(((0, 1, 5), (2, 0, 10))), "0 1 5 / 2 0 10")
        self.assertEqual(steps_text([(3, 4, 10 ** 5000)]), "3 4 1" + "0" * 5000)

    def test_arguments_by_name(self):
        self.assertEqual(number_text(number=5), "5")
        self.assertEqual(numbers_text(numbers=[5]), "5")
        self.assertEqual(read_numbers(text="5 6"), [5, 6])
        self.assertEqual(web_text(web=made(ALONE)), "web 1")
        self.assertEqual(read_web(text="web 1").many, 1)
        self.assertEqual(steps_text(steps=[(0, 1, 2)]), "0 1 2")
        self.assertEqual(read_steps(text="0 1 2"), [(0, 1, 2)])


class ReadNumbers(Refusing):
    def test_right_ones(self):
        self.assertEqual(read_numbers(""), [])
        self.assertEqual(read_numbers("0"), [0])
        self.assertEqual(read_numbers("0 0"), [0, 0])
        self.assertEqual(read_numbers("7 0 12"), [7, 0, 12])
        self.assertEqual(read_numbers("10 100 1000"), [10, 100, 1000])
        self.assertIs(read_numbers("7 0 12").__class__, list)

    def test_of_60_figures_and_of_61(self):
        self.assertEqual(read_numbers(NINES), [10 ** 60 - 1])
        self.assertEqual(read_numbers("1 1" + "0" * 59), [1, 10 ** 59])
        self.refused(read_numbers, NINES + "9", 1)
        self.refused(read_numbers, "1 1" + "0" * 60, 1)
        self.refused(read_numbers, "1" * 5900, 1)

    def test_no_numbers(self):
        for word in NO_NUMBERS:
            for text in (word, "1 " + word, word + " 1", "1 " + word + " 1"):
                self.refused(read_numbers, text, 1)

    def test_every_sign_but_figures(self):
        for sign in [chr(code) for code in range(ord("!"), ord("~") + 1) if not chr(code).isdigit()]:
            for text in (sign, "1" + sign, sign + "1", "1" + sign + "1", "1 " + sign, "1 " + sign + " 1"):
                self.refused(read_numbers, text, 1)

    def test_blanks(self):
        for text in (" ", "  ", "1  2", " 1", "1 ", "1 2 ", " 1 2", "1   2", "0  0"):
            self.refused(read_numbers, text, 1)

    def test_a_second_row(self):
        for text in ("1\n", "1 2\n3", "\n", "\n1", "\n\n", "0\nx", "0\n\n\n", "\nx"):
            self.refused(read_numbers, text, 2)

    def test_the_first_wrong_row_counts(self):
        for text in ("x\n", "1  2\n3", " \n", "01\n1\n", NINES + "9\n1"):
            self.refused(read_numbers, text, 1)

    def test_there_and_back(self):
        source = Random(4)
        for many in range(30):
            for figures in (1, 2, 18, 19, 60):
                numbers = [source.randrange(10 ** figures) for k in range(many)]
                self.assertEqual(read_numbers(numbers_text(numbers)), numbers)
                self.assertEqual(read_numbers(numbers_text(tuple(numbers))), numbers)

    def test_spoilt_texts(self):
        source = Random(5)
        seen = set()
        for turn in range(4000):
            numbers = [source.randrange(10 ** source.choice((1, 3, 60))) for k in range(source.randrange(4))]
            text = spoilt(numbers_text(numbers), source)
            found = outcome(read_numbers, text)
            self.assertEqual(slow_read_row(NUMBERS_ROW, text), found if found[0] == "text" else ("read",), repr(text))
            if found[0] == "read":
                self.assertEqual(found[1], [int(word) for word in text.split()])
                self.assertEqual(numbers_text(found[1]), text)
            seen.add(found[:2] if found[0] == "text" else "read")
        self.assertEqual(len(seen), 3)


class ReadSteps(Refusing):
    def test_right_ones(self):
        self.assertEqual(read_steps("."), [])
        self.assertEqual(read_steps("0 1 5"), [(0, 1, 5)])
        self.assertEqual(read_steps("0 1 5 / 2 0 10"), [(0, 1, 5), (2, 0, 10)])
        self.assertEqual(read_steps("0 0 0 / 99 99 0 / 1 2 3"), [(0, 0, 0), (99, 99, 0), (1, 2, 3)])
        self.assertEqual(read_steps(f"{NINES} {NINES} {NINES}"), [(10 ** 60 - 1,) * 3])
        found = read_steps("0 1 5 / 2 0 10")
        self.assertEqual([value.__class__ for value in (found, *found)], [list, tuple, tuple])

    def test_another_count_of_numbers(self):
        for row in ("", "0", "0 1", "0 1 2 3", "0 1 2 3 4 5", "0 1 2 / 0 1", "0 1 / 0 1 2", "0 1 2 / 0 1 2 3"):
            self.refused(read_steps, row, 1)

    def test_no_numbers(self):
        for word in NO_NUMBERS:
            for row in (f"{word} 1 2", f"0 {word} 2", f"0 1 {word}", f"0 1 2 / {word} 1 2", f"0 1 {word} / 0 1 2"):
                self.refused(read_steps, row, 1)

    def test_other_signs_between(self):
        for between in ("/", " /", "/ ", "  / ", " /  ", " / / ", " // ", ", ", " . ", " ", " | ", " / . / "):
            self.refused(read_steps, "0 1 2" + between + "1 2 3", 1)

    def test_blanks_and_points(self):
        for row in (
            " ", " .", ". ", "..", ". .", " 0 1 2", "0 1 2 ", "0  1 2", "0 1 2 /", "0 1 2 / ", "/ 0 1 2", " / 0 1 2",
            "/", " / ", "0 1 2 / .", ". / 0 1 2", "0 1 2 .", "0 1 2.", ". 0 1 2",
        ):
            self.refused(read_steps, row, 1)

    def test_a_second_row(self):
        for text in (".\n", ".\n.", "0 1 2\n", "0 1 2\n3 4 5", "0 1 2 / 3 4 5\n\n", ".\nx"):
            self.refused(read_steps, text, 2)

    def test_the_first_wrong_row_counts(self):
        for text in ("\n", "\n.", "0 1\n", "x\n0 1 2", "0 1 2 /\n3 4 5", NINES + "0 1 2\n"):
            self.refused(read_steps, text, 1)

    def test_there_and_back(self):
        source = Random(6)
        for many in range(30):
            for figures in (1, 2, 60):
                steps = [tuple(source.randrange(10 ** figures) for part in range(3)) for k in range(many)]
                self.assertEqual(read_steps(steps_text(steps)), steps)
                self.assertEqual(read_steps(steps_text(tuple(steps))), steps)

    def test_spoilt_texts(self):
        source = Random(7)
        seen = set()
        for turn in range(4000):
            steps = [tuple(source.randrange(20) for part in range(3)) for k in range(source.randrange(4))]
            text = spoilt(steps_text(steps), source)
            found = outcome(read_steps, text)
            self.assertEqual(slow_read_row(STEPS_ROW, text), found if found[0] == "text" else ("read",), repr(text))
            if found[0] == "read":
                self.assertEqual(steps_text(found[1]), text)
            seen.add(found[:2] if found[0] == "text" else "read")
        self.assertEqual(len(seen), 3)


class ReadWeb(Refusing):
    def test_right_ones(self):
        self.assertEqual((read_web("web 1").many, read_web("web 1").roads), (1, ()))
        web = read_web("web 4\nroad 0 1 2 3\nroad 2 1 5 7\nroad 2 3 11 13")
        self.assertEqual((web.many, web.roads), (4, ((0, 1, 2, 3), (2, 1, 5, 7), (2, 3, 11, 13))))

    def test_there_and_back(self):
        for sample in list(all_webs()) + list(EVEN):
            web = made(sample)
            again = read_web(web_text(web))
            self.assertIs(again.__class__, web.__class__)
            self.assertEqual((again.many, again.roads), (web.many, web.roads))
            self.assertEqual(web_text(again), web_text(web))

    def test_the_first_row(self):
        for row in (
            "", " ", "web", "web ", " web 1", "web  1", "web 1 ", "web 1 1", "Web 1", "webs 1", "1", "1 web", "road 1",
            "road 0 1 2 2", "web1", "web one", "web -1", "web 01", "web 00", "web +1", "web 1.", "net 1",
        ):
            for text in (row, row + "\n", row + "\nroad 0 1 2 2", row + "\nx"):
                self.refused(read_web, text, 1)

    def test_no_number_in_the_first_row(self):
        for word in NO_NUMBERS:
            self.refused(read_web, "web " + word, 1)

    def test_each_wrong_row_of_a_road(self):
        rows = web_text(made(ROW)).split("\n")
        wrong = [
            "", " ", "road", "road ", "road 0 1 2", "road 0 1 2 3 4", "road 0 1 2 ", "road 0 1 2 3 ", " road 0 1 2 3",
            "road  0 1 2 3", "road 0 1  2 3", "Road 0 1 2 3", "roads 0 1 2 3", "web 0 1 2 3", "0 1 2 3", "way 0 1 2 3",
            "road 0 1 2 3 / 0 1 2 3", "web 4",
        ]
        for word in NO_NUMBERS:
            wrong += [f"road {word} 1 2 3", f"road 0 {word} 2 3", f"road 0 1 {word} 3", f"road 0 1 2 {word}"]
        for at in (2, 3, 4):
            for row in wrong:
                spoiled = rows[:at - 1] + [row] + rows[at:]
                self.refused(read_web, "\n".join(spoiled), at)
                self.refused(read_web, "\n".join(spoiled + ["x"]), at)

    def test_a_row_lacking(self):
        for sample in (PAIR, ROW, LONG_ROW):
            rows = web_text(made(sample)).split("\n")
            for many in range(1, len(rows)):
                self.refused(read_web, "\n".join(rows[:many]), many + 1)
                self.refused(read_web, "\n".join(rows[:many]) + "\n", many + 1)

    def test_a_row_too_many(self):
        for sample in NAMED:
            text = web_text(made(sample))
            for more in ("\n", "\n\n", "\nroad 0 1 2 2", "\nx", "\nroad 0 1 2 2\n", "\n" + text):
                self.refused(read_web, text + more, sample[0] + 1)

    def test_an_empty_row_between(self):
        rows = web_text(made(ROW)).split("\n")
        for at in (2, 3, 4):
            self.refused(read_web, "\n".join(rows[:at - 1] + [""] + rows[at - 1:]), at)
        self.refused(read_web, "\n" + web_text(made(ROW)), 1)

    def test_other_counts_of_places(self):
        for many in ("0", "25", "26", "100", "1" + "0" * 59, NINES):
            with self.assertRaises(BadWeb):
                read_web("web " + many)
            for more in ("\n", "\nroad 0 1 2 2", "\nx", "\n\n", "\nroad 0 1 2 2\nroad 1 2 2 2", "\nroad 0 1 2 2" * 24):
                self.refused(read_web, "web " + many + more, 2)
        for many in (NINES + "9", "1" * 5000):
            self.refused(read_web, "web " + many, 1)
            self.refused(read_web, "web " + many + "\n", 1)

    def test_24_places_are_a_web_and_25_are_none(self):
        roads = [f"\nroad {k} {k + 1} 2 1000000" for k in range(24)]
        self.assertEqual(read_web("web 24" + "".join(roads[:23])).many, 24)
        self.refused(read_web, "web 25" + "".join(roads), 2)

    def test_what_is_so_written_but_no_web(self):
        for text in (
            "web 2\nroad 0 0 2 2", "web 2\nroad 0 2 2 2", "web 2\nroad 0 1 1 2", "web 2\nroad 0 1 2 1000001",
            "web 2\nroad 1 1 0 0", f"web 2\nroad 0 {NINES} 2 2", f"web 2\nroad 0 1 {NINES} 2",
            "web 3\nroad 0 1 2 2\nroad 1 0 2 2", "web 4\nroad 0 1 2 2\nroad 1 2 2 2\nroad 2 0 2 2",
        ):
            with self.assertRaises(BadWeb):
                read_web(text)

    def test_badtext_goes_ahead_of_badweb(self):
        self.refused(read_web, "web 3\nroad 0 0 1 1\nroad 0 1 2", 3)
        self.refused(read_web, "web 3\nroad 0 0 1 1", 3)
        self.refused(read_web, "web 3\nroad 0 0 1 1\nroad 0 1 2 2\n", 4)
        self.refused(read_web, "web 0\nx", 2)
        self.refused(read_web, "web 2\nroad 9 9 9 09", 2)

    def test_spoilt_texts(self):
        source = Random(8)
        seen = set()
        for turn in range(12000):
            text = spoilt(web_text(made(source.choice((ALONE, PAIR, ROW)))), source)
            found = outcome(read_web, text)
            self.assertEqual(found, slow_read_web(text), repr(text))
            seen.add(found[:2] if found[0] == "text" else found[0])
        self.assertEqual(seen, {("text", at) for at in range(1, 6)} | {"web", "read"})


if __name__ == "__main__":
    unittest.main()
