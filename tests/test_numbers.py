"""Numbers [4], held against Python's own fractions."""

import math
import unittest
from fractions import Fraction

from freshsheet import errors
from freshsheet.numbers import difference_of, is_less, number_of, product_of, quotient_of, sum_of

GREAT = 10 ** 60 - 1
WHOLES = [0, 1, 2, 3, 4, 6, 9, 12, 35, 64, 97, 1000, 10 ** 29, 2 ** 99, 3 ** 60, 10 ** 30 - 1, 10 ** 59,
          GREAT - 1, GREAT]
SIGNED = sorted(set(WHOLES + [-whole for whole in WHOLES]))
TOPS = [-GREAT, -(10 ** 30), -35, -6, -1, 0, 1, 2, 4, 12, 10 ** 29, GREAT]
BOTTOMS = [1, 2, 3, 6, 35, 10 ** 30 - 1, GREAT]
NUMBERS = sorted({(Fraction(top, bottom).numerator, Fraction(top, bottom).denominator)
                  for top in TOPS for bottom in BOTTOMS})


def pair_of(fraction):
    return (fraction.numerator, fraction.denominator)


class NumbersTest(unittest.TestCase):
    def assert_number(self, thing):
        self.assertIs(type(thing), tuple)
        self.assertEqual([type(part) for part in thing], [int, int])
        self.assertGreaterEqual(thing[1], 1)
        self.assertEqual(math.gcd(thing[0], thing[1]), 1)

    def assert_no_number(self, call, *parts):
        with self.assertRaises(errors.NoNumber) as taken:
            call(*parts)
        self.assertIs(type(taken.exception), errors.NoNumber)
        self.assertIsInstance(taken.exception, errors.SheetError)
        self.assertIsInstance(taken.exception, ValueError)

    def test_ordinary_ones(self):
        self.assertEqual(number_of(3, 4), (3, 4))
        self.assertEqual(number_of(6, 4), (3, 2))
        self.assertEqual(number_of(6, 3), (2, 1))
        self.assertEqual(number_of(7, 1), (7, 1))

    def test_a_top_of_nought(self):
        for bottom in (1, -1, 5, -5, GREAT, -GREAT):
            self.assertEqual(number_of(0, bottom), (0, 1))

    def test_a_bottom_below_nought(self):
        self.assertEqual(number_of(1, -2), (-1, 2))
        self.assertEqual(number_of(-1, -2), (1, 2))
        self.assertEqual(number_of(-6, -4), (3, 2))
        self.assertEqual(number_of(6, -4), (-3, 2))
        self.assertEqual(number_of(-6, 4), (-3, 2))

    def test_of_any_two_whole_numbers(self):
        for top in SIGNED:
            for bottom in SIGNED:
                if bottom != 0:
                    made = number_of(top, bottom)
                    self.assert_number(made)
                    self.assertEqual(made, pair_of(Fraction(top, bottom)))

    def test_sixty_figures(self):
        self.assertEqual(number_of(GREAT, -GREAT), (-1, 1))
        self.assertEqual(number_of(-GREAT, GREAT - 1), (-GREAT, GREAT - 1))
        self.assertEqual(number_of(10 ** 59, 5 * 10 ** 58), (2, 1))

    def test_a_bottom_of_nought_is_refused(self):
        for top in (0, 1, -1, 5, GREAT, -GREAT):
            self.assert_no_number(number_of, top, 0)

    def test_sums_by_hand(self):
        self.assertEqual(sum_of((1, 2), (1, 3)), (5, 6))
        self.assertEqual(sum_of((1, 6), (1, 3)), (1, 2))
        self.assertEqual(sum_of((1, 2), (-1, 2)), (0, 1))
        self.assertEqual(difference_of((1, 2), (1, 3)), (1, 6))
        self.assertEqual(difference_of((1, 3), (1, 2)), (-1, 6))
        self.assertEqual(difference_of((5, 6), (1, 3)), (1, 2))
        self.assertEqual(product_of((2, 3), (3, 4)), (1, 2))
        self.assertEqual(product_of((-2, 3), (-3, 2)), (1, 1))
        self.assertEqual(product_of((0, 1), (-3, 2)), (0, 1))
        self.assertEqual(quotient_of((2, 3), (4, 3)), (1, 2))
        self.assertEqual(quotient_of((1, 2), (-1, 3)), (-3, 2))
        self.assertEqual(quotient_of((0, 1), (-1, 3)), (0, 1))

    def test_sums_in_lowest_terms(self):
        for a in NUMBERS:
            for b in NUMBERS:
                one = Fraction(*a)
                other = Fraction(*b)
                told = [sum_of(a, b), difference_of(a, b), product_of(a, b)]
                wanted = [one + other, one - other, one * other]
                if b[0] != 0:
                    told.append(quotient_of(a, b))
                    wanted.append(one / other)
                for thing in told:
                    self.assert_number(thing)
                self.assertEqual(told, [pair_of(fraction) for fraction in wanted])

    def test_over_nought_is_refused(self):
        for a in NUMBERS:
            self.assert_no_number(quotient_of, a, (0, 1))

    def test_is_less(self):
        for a in NUMBERS:
            for b in NUMBERS:
                self.assertIs(is_less(a, b), Fraction(*a) < Fraction(*b))

    def test_is_less_by_hand(self):
        self.assertIs(is_less((1, 3), (1, 2)), True)
        self.assertIs(is_less((1, 2), (1, 3)), False)
        self.assertIs(is_less((1, 2), (1, 2)), False)
        self.assertIs(is_less((-1, 2), (-1, 3)), True)
        self.assertIs(is_less((-1, 2), (0, 1)), True)


if __name__ == "__main__":
    unittest.main()
