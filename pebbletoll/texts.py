"""Texts: numbers, webs and steps, written and read."""

from pebbletoll.errors import BadText
from pebbletoll.webs import MOST_PLACES, Web

FIGURES = "0123456789"
MOST_FIGURES = 60
PIECE = 1000000000000000000
PIECE_FIGURES = 18


# Python does not write out a very long number at once, so it is written piece
# by piece, the last figures first.
def number_text(number):
    pieces = []
    while number >= PIECE:
        pieces.append(str(number % PIECE).zfill(PIECE_FIGURES))
        number = number // PIECE
    pieces.append(str(number))
    return "".join(reversed(pieces))


def numbers_text(numbers):
    return " ".join([number_text(number) for number in numbers])


def web_text(web):
    rows = ["web " + number_text(web.many)]
    for road in web.roads:
        rows.append("road " + numbers_text(road))
    return "\n".join(rows)


def steps_text(steps):
    if len(steps) == 0:
        return "."
    return " / ".join([numbers_text(step) for step in steps])


# A row is read before one behind it is looked for: the first wrong row counts.


def read_numbers(text):
    rows = text.split("\n")
    numbers = []
    if rows[0] != "":
        numbers = [read_number(word, 1) for word in rows[0].split(" ")]
    check_end(rows, 1)
    return numbers


def read_steps(text):
    rows = text.split("\n")
    steps = []
    if rows[0] != ".":
        steps = [tuple(read_words(part.split(" "), 3, 1)) for part in rows[0].split(" / ")]
    check_end(rows, 1)
    return steps


def read_web(text):
    rows = text.split("\n")
    many = read_row(rows, 1, "web", 1)[0]
    last = many if 1 <= many <= MOST_PLACES else 1
    roads = [tuple(read_row(rows, at, "road", 4)) for at in range(2, last + 1)]
    check_end(rows, last)
    return Web(many, roads)


# The numbers of the row with the number `at`: so many of them behind a word.
def read_row(rows, at, head, many):
    if at > len(rows):
        raise BadText(at)
    words = rows[at - 1].split(" ")
    if words[0] != head:
        raise BadText(at)
    return read_words(words[1:], many, at)


def read_words(words, many, at):
    if len(words) != many:
        raise BadText(at)
    return [read_number(word, at) for word in words]


def read_number(word, at):
    if not is_number(word):
        raise BadText(at)
    return int(word)


def is_number(word):
    if not 1 <= len(word) <= MOST_FIGURES or not all([sign in FIGURES for sign in word]):
        return False
    return word == "0" or word[0] != "0"


def check_end(rows, last):
    if len(rows) > last:
        raise BadText(last + 1)
