"""0.4, and the interface of pebbletoll/errors.py."""

import unittest

from pebbletoll import errors
from pebbletoll.errors import TollError

OF_A_TEXT = ("BadWeb", "NoPlace", "NoRoad", "BadLaying", "BadWish", "TooMany", "NoNumber", "NoWorst", "NoDeed")
OF_A_NUMBER = ("BadStep", "BadText")


def one_of(name):
    return getattr(errors, name)(3 if name in OF_A_NUMBER else "some words")


class ErrorClasses(unittest.TestCase):
    def test_there_are_eleven_besides_tollerror(self):
        classes = [name for name, value in vars(errors).items() if isinstance(value, type)]
        self.assertEqual(sorted(classes), sorted(OF_A_TEXT + OF_A_NUMBER + ("TollError",)))
        self.assertEqual(len(OF_A_TEXT + OF_A_NUMBER), 11)

    def test_tollerror_stands_under_valueerror(self):
        self.assertEqual(TollError.__bases__, (ValueError,))
        self.assertEqual(str(TollError("some words")), "some words")

    def test_each_stands_straight_under_tollerror(self):
        for name in OF_A_TEXT + OF_A_NUMBER:
            self.assertEqual(getattr(errors, name).__bases__, (TollError,), name)

    def test_each_is_taken_by_its_own_by_tollerror_and_by_valueerror(self):
        for name in OF_A_TEXT + OF_A_NUMBER:
            for taker in (getattr(errors, name), TollError, ValueError):
                with self.assertRaises(taker):
                    raise one_of(name)

    def test_none_is_taken_by_another_one(self):
        for name in OF_A_TEXT + OF_A_NUMBER:
            for other in OF_A_TEXT + OF_A_NUMBER:
                taken = isinstance(one_of(name), getattr(errors, other))
                self.assertEqual(taken, name == other, (name, other))

    def test_those_made_of_a_text_keep_it(self):
        for name in OF_A_TEXT:
            self.assertEqual(str(one_of(name)), "some words")

    def test_those_made_of_a_number_keep_it_as_at(self):
        for name in OF_A_NUMBER:
            for number in (0, 1, 7, 10 ** 59, 10 ** 5000):
                self.assertEqual(getattr(errors, name)(number).at, number)
            self.assertEqual(getattr(errors, name)(at=5).at, 5)

    def test_two_of_one_class_keep_their_own_numbers(self):
        for name in OF_A_NUMBER:
            first = getattr(errors, name)(1)
            second = getattr(errors, name)(2)
            self.assertEqual((first.at, second.at), (1, 2))


if __name__ == "__main__":
    unittest.main()
