"""Arithmetic of fractions, against Python's own Fraction."""

import math
import unittest
from fractions import Fraction

from evenpace import rationals
from evenpace.errors import ZeroDenominator
from tests.samples import is_plain_fraction, mixed, mixed_positive, number, pair, source, worth


class Forms(unittest.TestCase):
    def check(self, result, expected):
        self.assertTrue(is_plain_fraction(result), result)
        self.assertEqual(worth(result), expected)


class Reduction(Forms):
    def test_constants(self):
        self.assertEqual((rationals.ZERO, rationals.ONE), ((0, 1), (1, 1)))

    def test_numbers_of_one_to_thirty_digits(self):
        rng = source("reduction")
        for _ in range(2000):
            num, den = number(rng), number(rng)
            factor = number(rng, 8)
            if den * factor != 0:
                self.check(rationals.fraction(num * factor, den * factor), Fraction(num, den))

    def test_all_small_numbers(self):
        for num in range(-12, 13):
            for den in [*range(-12, 0), *range(1, 13)]:
                self.check(rationals.fraction(num, den), Fraction(num, den))

    def test_default_denominator(self):
        for num in (-7, 0, 1, 10 ** 29):
            self.assertEqual(rationals.fraction(num), (num, 1))

    def test_zero_denominator(self):
        for num in (-7, 0, 1, 10 ** 29):
            with self.assertRaises(ZeroDenominator) as caught:
                rationals.fraction(num, 0)
            self.assertEqual(caught.exception.tag, "ZeroDenominator")

    def test_by_keyword(self):
        self.assertEqual(rationals.fraction(den=-4, num=6), (-3, 2))


class Arithmetic(Forms):
    def test_two_fractions(self):
        rng = source("arithmetic")
        for _ in range(2000):
            one, other = mixed(rng), mixed(rng)
            self.check_operations(one, other)
            self.check_operations(one, one)
            self.check_operations(one, -one)

    def check_operations(self, one, other):
        self.check(rationals.add(pair(one), pair(other)), one + other)
        self.check(rationals.subtract(pair(one), pair(other)), one - other)
        self.check(rationals.multiply(pair(one), pair(other)), one * other)
        self.assertIs(rationals.is_less(pair(one), pair(other)), one < other)
        if other != 0:
            self.check(rationals.divide(pair(one), pair(other)), one / other)

    def test_division_by_zero(self):
        for one in ((0, 1), (1, 2), (-10 ** 29, 3)):
            with self.assertRaises(ZeroDenominator):
                rationals.divide(one, (0, 1))

    def test_by_keyword(self):
        half, third = (1, 2), (1, 3)
        self.assertEqual(rationals.add(other=third, one=half), (5, 6))
        self.assertEqual(rationals.subtract(other=third, one=half), (1, 6))
        self.assertEqual(rationals.multiply(other=third, one=half), (1, 6))
        self.assertEqual(rationals.divide(other=third, one=half), (3, 2))
        self.assertIs(rationals.is_less(other=third, one=half), False)


class Totals(Forms):
    def test_up_to_six_fractions(self):
        rng = source("totals")
        for _ in range(500):
            row = [mixed(rng) for _ in range(rng.randint(0, 6))]
            start = mixed(rng)
            given = [pair(value) for value in row]
            self.check(rationals.total(given), sum(row))
            self.check(rationals.total(given, start=pair(start)), sum(row) + start)
            self.assertEqual(given, [pair(value) for value in row])

    def test_nothing(self):
        self.assertEqual(rationals.total([]), (0, 1))
        self.assertEqual(rationals.total([], start=(2, 3)), (2, 3))

    def test_tuple_and_keyword(self):
        row = ((1, 2), (1, 3))
        self.assertEqual(rationals.total(row), rationals.total(list(row)))
        self.assertEqual(rationals.total(row=row, start=(1, 6)), (1, 1))

    def test_start_is_keyword_only(self):
        with self.assertRaises(TypeError):
            rationals.total([(1, 2)], (1, 6))


class Rounding(Forms):
    def test_floor_and_ceiling(self):
        rng = source("rounding")
        for _ in range(2000):
            one = mixed(rng)
            floor, ceiling = rationals.floor_of(pair(one)), rationals.ceiling_of(pair(one))
            self.assertEqual((type(floor), type(ceiling)), (int, int))
            self.assertTrue(floor <= one < floor + 1)
            self.assertTrue(ceiling - 1 < one <= ceiling)

    def test_integers_stay(self):
        for num in (-10 ** 29, -1, 0, 1, 10 ** 29):
            self.assertEqual((rationals.floor_of((num, 1)), rationals.ceiling_of((num, 1))), (num, num))

    def test_remainder(self):
        rng = source("remainder")
        for _ in range(2000):
            one, period = mixed(rng), mixed_positive(rng)
            self.check_remainder(one, period)
            self.check_remainder(period, period)
            self.check_remainder(-period, period)
            self.check_remainder(period * rng.randint(-10 ** 6, 10 ** 6), period)
            self.check_remainder(Fraction(0), period)

    def check_remainder(self, one, period):
        rest = rationals.remainder(pair(one), pair(period))
        self.assertTrue(is_plain_fraction(rest), rest)
        self.assertTrue(0 <= worth(rest) < period)
        self.assertEqual(((one - worth(rest)) / period).denominator, 1)

    def test_by_keyword(self):
        self.assertEqual(rationals.floor_of(one=(-1, 2)), -1)
        self.assertEqual(rationals.ceiling_of(one=(-1, 2)), 0)
        self.assertEqual(rationals.remainder(period=(2, 1), one=(-1, 2)), (3, 2))


class CommonDivisor(Forms):
    def test_greatest_of_both(self):
        rng = source("common divisor")
        for _ in range(2000):
            one, other = mixed(rng), mixed(rng)
            self.check_divisor(one, other)
            self.check_divisor(one, one)
            self.check_divisor(Fraction(0), other)
            self.check_divisor(one, Fraction(0))
            self.check_divisor(one * rng.randint(-9, 9), one * rng.randint(-9, 9))

    def check_divisor(self, one, other):
        divisor = rationals.common_divisor(pair(one), pair(other))
        self.assertTrue(is_plain_fraction(divisor), divisor)
        if one == 0 and other == 0:
            self.assertEqual(divisor, (0, 1))
            return
        self.assertGreater(worth(divisor), 0)
        quotients = [one / worth(divisor), other / worth(divisor)]
        self.assertEqual([value.denominator for value in quotients], [1, 1])
        # If a greater fraction divided both, the quotients would share a factor.
        self.assertEqual(math.gcd(*[value.numerator for value in quotients]), 1)

    def test_both_zero(self):
        self.assertEqual(rationals.common_divisor((0, 1), (0, 1)), (0, 1))

    def test_by_keyword(self):
        self.assertEqual(rationals.common_divisor(other=(-1, 1), one=(3, 2)), (1, 2))
