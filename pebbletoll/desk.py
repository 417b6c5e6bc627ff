"""The desk: a web with a laying and a wish, changed by deeds and asked by rows."""

from pebbletoll.always import always, fails
from pebbletoll.bringing import bring, most
from pebbletoll.enough import enough, hardest, worst
from pebbletoll.errors import BadLaying, BadStep, BadText, BadWeb, BadWish, NoDeed, NoPlace, NoWorst
from pebbletoll.layings import pile
from pebbletoll.steps import walked
from pebbletoll.texts import number_text, numbers_text, read_web, read_words, steps_text
from pebbletoll.webs import Web, check_place
from pebbletoll.wishes import meeting, standing, wish_of
from pebbletoll.worsts import worst_many

DEEDS = ("put", "want", "step", "back")

# How many numbers stand behind the word of each row.
NUMBERS_BEHIND = {
    "put": 2,
    "want": 2,
    "step": 3,
    "back": 0,
    "laying": 0,
    "wish": 0,
    "most": 1,
    "bring": 1,
    "stands": 1,
    "meet": 0,
    "enough": 2,
    "hardest": 1,
    "worst": 2,
    "many": 2,
    "always": 0,
    "fails": 0,
}


class Desk:
    def __init__(self, web):
        self.web = Web(web.many, web.roads)
        noughts = tuple([0] * web.many)
        # The laying and the wish as they were at first and behind each deed.
        self.past = [(noughts, noughts)]

    def put(self, place, many):
        heap = pile(self.web, place, many)
        self.keep(tuple([has + more for has, more in zip(self.laying(), heap)]), self.wish())

    def want(self, place, many):
        check_place(self.web, place)
        wanted = list(self.wish())
        wanted[place] = many
        self.keep(self.laying(), wish_of(self.web, wanted))

    def step(self, a, b, times):
        self.keep(walked(self.web, self.laying(), [(a, b, times)]), self.wish())

    def keep(self, laying, wish):
        self.past.append((laying, wish))

    def back(self):
        if self.deeds() == 0:
            raise NoDeed("no deed is left that could be taken back")
        self.past.pop()

    def laying(self):
        return self.past[-1][0]

    def wish(self):
        return self.past[-1][1]

    def deeds(self):
        return len(self.past) - 1

    def answer(self, row):
        try:
            return answer_of(self, row)
        except BadText:
            return "refused row"
        except NoPlace:
            return "refused place"
        except BadLaying:
            return "refused laying"
        except BadWish:
            return "refused wish"
        except BadStep:
            return "refused step"
        except NoDeed:
            return "refused deed"
        except NoWorst:
            return "refused none"


def answer_of(desk, row):
    words = row.split(" ")
    if words[0] not in NUMBERS_BEHIND:
        raise BadText(1)
    numbers = read_words(words[1:], NUMBERS_BEHIND[words[0]], 1)
    if words[0] in DEEDS:
        do_deed(desk, words[0], numbers)
        return "done"
    return told_of_desk(desk, words[0], numbers)


def do_deed(desk, word, numbers):
    if word == "put":
        desk.put(numbers[0], numbers[1])
    elif word == "want":
        desk.want(numbers[0], numbers[1])
    elif word == "step":
        desk.step(numbers[0], numbers[1], numbers[2])
    else:
        desk.back()


def told_of_desk(desk, word, numbers):
    if word == "laying":
        return numbers_text(desk.laying())
    if word == "wish":
        return numbers_text(desk.wish())
    if word == "most":
        return number_text(most(desk.web, desk.laying(), numbers[0]))
    if word == "bring":
        return steps_text(bring(desk.web, desk.laying(), numbers[0]))
    if word == "stands":
        return standing_text(standing(desk.web, desk.laying(), desk.wish(), numbers[0]))
    if word == "meet":
        return meeting_text(meeting(desk.web, desk.laying(), desk.wish()))
    if word == "always":
        return number_text(always(desk.web, desk.wish()))
    if word == "fails":
        return numbers_text(fails(desk.web, desk.wish()))
    return told_of_web(desk.web, word, numbers)


def told_of_web(web, word, numbers):
    if word == "enough":
        return number_text(enough(web, numbers[0], numbers[1]))
    if word == "hardest":
        return numbers_text(hardest(web, numbers[0]))
    if word == "worst":
        return numbers_text(worst(web, numbers[0], numbers[1]))
    return number_text(worst_many(web, numbers[0], numbers[1]))


def standing_text(number):
    if number < 0:
        return "-" + number_text(-number)
    return number_text(number)


def meeting_text(found):
    if found[0] == "steps":
        return "steps " + steps_text(found[1])
    return "lack " + numbers_text(found[1])


def run(text):
    rows = text.split("\n")
    if "" not in rows:
        return "refused web"
    gap = rows.index("")
    try:
        web = read_web("\n".join(rows[:gap]))
    except (BadText, BadWeb):
        return "refused web"
    desk = Desk(web)
    answers = []
    for row in rows[gap + 1:]:
        answers.append(desk.answer(row))
    return "\n".join(answers)
