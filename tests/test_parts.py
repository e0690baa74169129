"""Point 1 and the interface's section hoistworks/parts.py: fractions."""

import unittest
from fractions import Fraction

from hoistworks.parts import less, minus, over, plus, times

NOUGHT = (0, 1)
SMALL = sorted({Fraction(top, bottom).as_integer_ratio() for top in range(-7, 8) for bottom in range(1, 8)})
BIG = [
    (10 ** 60 - 1, 10 ** 59 + 1),
    (-(10 ** 60 - 1), 10 ** 60 - 2),
    (2 ** 199, 3 ** 125),
    (-(3 ** 125), 2 ** 199),
    (10 ** 59 + 1, 1),
    (1, 10 ** 60 - 1),
    (-1, 10 ** 60 - 1),
]


class FractionsTest(unittest.TestCase):
    def check_told(self, told, wanted):
        self.assertEqual(told, wanted.as_integer_ratio())
        self.assertIs(type(told), tuple)
        self.assertEqual([type(number) for number in told], [int, int])

    def check_pairs(self, fractions):
        for one in fractions:
            for other in fractions:
                left, right = Fraction(*one), Fraction(*other)
                with self.subTest(one=one, other=other):
                    self.check_told(plus(one, other), left + right)
                    self.check_told(minus(one, other), left - right)
                    self.check_told(times(one, other), left * right)
                    if other != NOUGHT:
                        self.check_told(over(one, other), left / right)
                    self.assertIs(less(one, other), left < right)

    def test_small_fractions_of_either_sign(self):
        self.check_pairs(SMALL)

    def test_big_fractions_and_nought(self):
        self.check_pairs(BIG + [NOUGHT, (1, 1), (-1, 1)])

    def test_sums(self):
        self.assertEqual(plus((1, 2), (1, 3)), (5, 6))
        self.assertEqual(plus((1, 6), (1, 3)), (1, 2))
        self.assertEqual(plus((-1, 2), (1, 3)), (-1, 6))
        self.assertEqual(plus((3, 4), (-3, 4)), NOUGHT)

    def test_differences(self):
        self.assertEqual(minus((1, 2), (1, 3)), (1, 6))
        self.assertEqual(minus((1, 3), (1, 2)), (-1, 6))
        self.assertEqual(minus((1, 2), (-1, 2)), (1, 1))
        self.assertEqual(minus((5, 7), (5, 7)), NOUGHT)

    def test_products(self):
        self.assertEqual(times((2, 3), (3, 4)), (1, 2))
        self.assertEqual(times((-2, 3), (3, 4)), (-1, 2))
        self.assertEqual(times((-2, 3), (-3, 2)), (1, 1))
        self.assertEqual(times(NOUGHT, (-3, 7)), NOUGHT)

    def test_quotients(self):
        self.assertEqual(over((1, 2), (3, 4)), (2, 3))
        self.assertEqual(over((6, 1), (4, 1)), (3, 2))
        self.assertEqual(over(NOUGHT, (3, 4)), NOUGHT)

    def test_quotients_by_a_fraction_below_nought(self):
        self.assertEqual(over((1, 2), (-3, 4)), (-2, 3))
        self.assertEqual(over((-1, 2), (-3, 4)), (2, 3))
        self.assertEqual(over(NOUGHT, (-3, 4)), NOUGHT)
        self.assertEqual(over((1, 1), (-1, 10 ** 60 - 1)), (-(10 ** 60 - 1), 1))

    def test_big_results_are_exact(self):
        ones = 10 ** 60 - 1
        self.assertEqual(times((ones, 1), (ones, 1)), (10 ** 120 - 2 * 10 ** 60 + 1, 1))
        self.assertEqual(times((ones, 1), (1, ones)), (1, 1))
        self.assertEqual(plus((1, ones), (-1, ones)), NOUGHT)
        self.assertEqual(plus((1, ones), (1, ones - 1)), (2 * ones - 1, ones * (ones - 1)))

    def test_less_either_way_and_for_equal_fractions(self):
        self.assertIs(less((1, 3), (1, 2)), True)
        self.assertIs(less((1, 2), (1, 3)), False)
        self.assertIs(less((1, 2), (1, 2)), False)
        self.assertIs(less((-1, 2), (-1, 3)), True)
        self.assertIs(less((-1, 3), (-1, 2)), False)
        self.assertIs(less((-1, 2), NOUGHT), True)
        self.assertIs(less(NOUGHT, NOUGHT), False)

    def test_less_tells_big_neighbours_apart(self):
        ones = 10 ** 60 - 1
        self.assertIs(less((1, ones), (1, ones - 1)), True)
        self.assertIs(less((1, ones - 1), (1, ones)), False)
        self.assertIs(less((ones - 1, ones), (1, 1)), True)

    def test_arguments_have_their_names(self):
        self.assertEqual(plus(other=(1, 3), one=(1, 2)), (5, 6))
        self.assertEqual(minus(other=(1, 3), one=(1, 2)), (1, 6))
        self.assertEqual(times(other=(1, 3), one=(1, 2)), (1, 6))
        self.assertEqual(over(other=(1, 3), one=(1, 2)), (3, 2))
        self.assertIs(less(other=(1, 3), one=(1, 2)), False)


if __name__ == "__main__":
    unittest.main()
