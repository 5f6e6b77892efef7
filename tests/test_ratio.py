"""Fractions: their sums and products in lowest terms, and the 10^40 of a step."""

import random
import unittest
from fractions import Fraction
from math import gcd, lcm

from countedchances.expected import GREATEST_NUMBER
from countedchances.ratio import common_below, common_divisor, greatest_divisor, lowest, plus, times, wholes_over


def pair(fraction):
    return (fraction.numerator, fraction.denominator)


class Ratios(unittest.TestCase):
    def setUp(self):
        self.source = random.Random(20261118)

    def number(self):
        return self.source.randint(0, self.source.choice([1, 6, 60, 10 ** 18, 10 ** 60]))

    def fraction(self):
        return Fraction(self.number(), self.number() + 1)

    def test_sums_and_products(self):
        for k in range(3000):
            one, other = self.fraction(), self.fraction()
            self.assertEqual(plus(pair(one), pair(other)), pair(one + other))
            self.assertEqual(times(pair(one), pair(other)), pair(one * other))

    def test_0_and_1(self):
        for k in range(100):
            one = pair(self.fraction())
            self.assertEqual(plus((0, 1), one), one)
            self.assertEqual(plus(one, (0, 1)), one)
            self.assertEqual(times((1, 1), one), one)
            self.assertEqual(times((0, 1), one), (0, 1))
            self.assertEqual(times(one, (0, 1)), (0, 1))

    def test_lowest(self):
        for k in range(500):
            above, below = self.number(), self.number() + 1
            self.assertEqual(lowest(above, below), pair(Fraction(above, below)))
        self.assertEqual(lowest(0, 7), (0, 1))

    def test_divisors(self):
        for k in range(500):
            numbers = [self.number() * 6 for j in range(self.source.randint(0, 5))]
            self.assertEqual(common_divisor(numbers), gcd(*numbers))
            one, other = self.number(), self.number()
            self.assertEqual(greatest_divisor(one, other), gcd(one, other))
        self.assertEqual(common_divisor([0, 0]), 0)

    def test_one_number_below(self):
        for k in range(500):
            those = [self.fraction() for j in range(self.source.randint(0, 5))]
            pairs = [pair(fraction) for fraction in those]
            below = common_below(pairs)
            self.assertEqual(below, lcm(*[fraction.denominator for fraction in those]))
            wholes = wholes_over(pairs, below)
            self.assertEqual([Fraction(whole, below) for whole in wholes], those)

    def test_the_greatest_number_of_a_chance(self):
        self.assertEqual(GREATEST_NUMBER, 10 ** 40)


if __name__ == "__main__":
    unittest.main()
