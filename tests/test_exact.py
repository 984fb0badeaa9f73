import unittest
from fractions import Fraction
from math import gcd

from pilesblends.exact import (
    common_divisor, in_a_row, in_fractions, less, lowest, minus, over, plus, product, times, total,
)

NOTHING = (0, 1)
SOME = [(0, 1), (1, 1), (7, 1), (1, 2), (3, 4), (5, 6), (6, 35), (10, 21), (-1, 2), (-9, 14), (10 ** 40 + 1, 10 ** 20)]


def pair(fraction):
    return (fraction.numerator, fraction.denominator)


class ExactTest(unittest.TestCase):
    def test_common_divisor(self):
        for one in range(-12, 13):
            for other in range(-12, 13):
                self.assertEqual(common_divisor(one, other), gcd(one, other), (one, other))

    def test_lowest_terms(self):
        for above in range(-20, 21):
            for below in range(1, 21):
                self.assertEqual(lowest(above, below), pair(Fraction(above, below)))

    def test_nothing_is_0_1(self):
        self.assertEqual(lowest(0, 1000), NOTHING)
        self.assertEqual(times((5, 7), 0), NOTHING)
        self.assertEqual(over(NOTHING, 9), NOTHING)
        self.assertEqual(plus((1, 2), (-1, 2)), NOTHING)

    def test_plus(self):
        for one in SOME:
            for other in SOME:
                self.assertEqual(plus(one, other), pair(Fraction(*one) + Fraction(*other)), (one, other))

    def test_minus_product_and_less(self):
        for one in SOME:
            for other in SOME:
                first, second = Fraction(*one), Fraction(*other)
                self.assertEqual(minus(one, other), pair(first - second), (one, other))
                self.assertEqual(product(one, other), pair(first * second), (one, other))
                self.assertEqual(less(one, other), first < second, (one, other))

    def test_total(self):
        self.assertEqual(total([]), NOTHING)
        self.assertEqual(total(SOME), pair(sum(Fraction(*one) for one in SOME)))

    def test_times_and_over(self):
        for one in SOME:
            for number in (1, 2, 6, 35, 10 ** 9):
                self.assertEqual(times(one, number), pair(Fraction(*one) * number), (one, number))
                self.assertEqual(over(one, number), pair(Fraction(*one) / number), (one, number))

    def test_in_fractions(self):
        self.assertEqual(in_fractions([]), [])
        self.assertEqual(in_fractions([4, 6, -3, 9, 0, 7, 5, 1]), [(2, 3), (-1, 3), (0, 1), (5, 1)])

    def test_in_a_row(self):
        self.assertEqual(in_a_row(((1, 2), (3, 4))), [1, 2, 3, 4])
        self.assertEqual(in_a_row(()), [])
