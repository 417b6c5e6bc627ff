"""Numbers that grow as a polynomial does: what the counts of worst layings are made of."""

import unittest
from math import comb

from pebbletoll.polynomials import differences, first_values, parted, value_at

PLACES = (0, 1, 2, 5, 23, 24, 10 ** 9, 10 ** 400 - 1, -1, -2, -7, -10 ** 60)


class Values(unittest.TestCase):
    def test_a_square_and_a_line(self):
        self.assertEqual(differences([0, 1, 4]), [0, 1, 2])
        self.assertEqual(differences([7, 4, 1]), [7, -3, 0])
        for at in PLACES:
            self.assertEqual(value_at([0, 1, 2], at), at * at)
            self.assertEqual(value_at([7, -3], at), 7 - 3 * at)
            self.assertEqual(value_at([5], at), 5)

    def test_powers_of_every_degree(self):
        for degree in range(24):
            found = differences([at ** degree for at in range(24)])
            for at in PLACES:
                self.assertEqual(value_at(found, at), at ** degree)

    def test_first_values(self):
        for degree in range(5):
            values = [comb(at + degree, degree) for at in range(9)]
            self.assertEqual(first_values(differences(values[:degree + 1]), 9), values)
        self.assertEqual(first_values([3], 0), [])

    def test_what_is_handed_in_stays(self):
        values = [1, 2, 4]
        differences(values)
        self.assertEqual(values, [1, 2, 4])
        self.assertEqual(differences([]), [])


class Parts(unittest.TestCase):
    def test_parted(self):
        self.assertEqual(parted([1, 1, 1], [1, 1, 1]), [1, 2, 3])
        self.assertEqual(parted([2, 3, 5], [7, 11, 13]), [14, 22 + 21, 26 + 33 + 35])


if __name__ == "__main__":
    unittest.main()
