"""The words integer, cell and ratio."""

import unittest

from fitfloors.values import is_an_integer, is_between, is_cell, is_ratio, ratio_of


class IntegerTest(unittest.TestCase):
    def test_integers(self):
        for value in [0, 1, -1, 10**50, -(10**50)]:
            self.assertIs(is_an_integer(value), True)

    def test_no_integers(self):
        for value in [True, False, None, 1.0, "1", b"1", (), (1,), [1], {1: 1}]:
            self.assertIs(is_an_integer(value), False, value)

    def test_between(self):
        self.assertEqual([is_between(value, 1, 3) for value in [0, 1, 2, 3, 4]], [False, True, True, True, False])
        for value in [True, None, 2.0, "2", (2,)]:
            self.assertIs(is_between(value, 1, 3), False, value)


class CellTest(unittest.TestCase):
    def test_cells(self):
        for value in [(0, 0), (-3, 5), (10**30, 2)]:
            self.assertIs(is_cell(value), True)

    def test_no_cells(self):
        wrong = [(), (0,), (0, 0, 0), [0, 0], (True, 0), (0, False), (0.0, 0), ("0", 0), (None, 0), None, 0, "00", ((0, 0),)]
        for value in wrong:
            self.assertIs(is_cell(value), False, value)


class RatioTest(unittest.TestCase):
    def test_ratios(self):
        for value in [(0, 1), (1, 1), (-1, 1), (1, 2), (-3, 2), (10**30, 1), (1, 10**30), (7, 10**30)]:
            self.assertIs(is_ratio(value), True)

    def test_no_ratios(self):
        wrong = [(0, 2), (2, 2), (2, 4), (-2, 4), (1, 0), (0, 0), (-1, 0), (1, -2), (-1, -2), (0, -1), (10**30, 10**20)]
        wrong += [0, 1, None, True, "12", (), (1,), (1, 2, 1), [1, 2], (True, 1), (1, True), (1.0, 2), ("1", "2"), ((1, 2),)]
        for value in wrong:
            self.assertIs(is_ratio(value), False, value)

    def test_the_ratio_of_two_integers(self):
        for numerator, denominator, wanted in [
            (0, 1, (0, 1)),
            (0, 7, (0, 1)),
            (3, 1, (3, 1)),
            (4, 6, (2, 3)),
            (-4, 6, (-2, 3)),
            (-6, 2, (-3, 1)),
            (10**30, 10**31, (1, 10)),
        ]:
            self.assertEqual(ratio_of(numerator, denominator), wanted)


if __name__ == "__main__":
    unittest.main()
