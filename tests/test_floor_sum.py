"""Sums of floors."""

import math
import unittest
from fractions import Fraction

from evenpace.errors import InvalidCount, PaceError
from evenpace.lattices import floor_sum
from tests.samples import large, mixed, pair, small, source


def sum_of(count, slope, offset):
    return floor_sum(count, pair(slope), pair(offset))


class ShortSums(unittest.TestCase):
    def test_term_by_term(self):
        rng = source("terms")
        for count in range(61):
            for _ in range(30):
                slope, offset = mixed(rng), mixed(rng)
                result = sum_of(count, slope, offset)
                self.assertIs(type(result), int)
                self.assertEqual(result, sum([math.floor(slope * k + offset) for k in range(count)]))

    def test_all_signs_of_small_and_large(self):
        rng = source("signs")
        for choice in (small, large):
            for signs in ((1, 1), (1, -1), (-1, 1), (-1, -1)):
                for _ in range(100):
                    slope, offset = signs[0] * abs(choice(rng)), signs[1] * abs(choice(rng))
                    count = rng.randint(0, 60)
                    terms = [math.floor(slope * k + offset) for k in range(count)]
                    self.assertEqual(sum_of(count, slope, offset), sum(terms))

    def test_zero_and_integers(self):
        self.assertEqual(floor_sum(0, (7, 3), (-5, 2)), 0)
        self.assertEqual(floor_sum(9, (0, 1), (0, 1)), 0)
        self.assertEqual(floor_sum(9, (2, 1), (-1, 1)), 63)
        self.assertEqual(floor_sum(1, (99, 7), (-1, 2)), -1)

    def test_negative_counts(self):
        for count in (-1, -2, -3, -10 ** 99):
            with self.assertRaises(InvalidCount) as caught:
                floor_sum(count, (1, 2), (1, 3))
            self.assertEqual((caught.exception.number, caught.exception.tag), (count, "InvalidCount"))
            self.assertIsInstance(caught.exception, PaceError)

    def test_by_keyword(self):
        self.assertEqual(floor_sum(offset=(-1, 2), slope=(1, 2), count=4), 0)


class LongSums(unittest.TestCase):
    def setUp(self):
        rng = source("long sums")
        self.cases = []
        for _ in range(500):
            count = rng.randint(0, 10 ** rng.randint(1, 20))
            self.cases.append((count, mixed(rng), mixed(rng), rng.randint(0, count)))

    def test_split_at_any_place(self):
        for count, slope, offset, at in self.cases:
            parts = sum_of(at, slope, offset) + sum_of(count - at, slope, offset + slope * at)
            self.assertEqual(sum_of(count, slope, offset), parts)

    def test_an_integer_more(self):
        for count, slope, offset, at in self.cases:
            result = sum_of(count, slope, offset)
            for more in (-2, 1, 3):
                self.assertEqual(sum_of(count, slope + more, offset), result + more * count * (count - 1) // 2)
                self.assertEqual(sum_of(count, slope, offset + more), result + more * count)

    def test_opposite_order(self):
        for count, slope, offset, at in self.cases:
            result = sum_of(count, slope, offset)
            self.assertEqual(sum_of(count, -slope, offset + slope * (count - 1)), result)

    def test_opposite_signs(self):
        for count, slope, offset, at in self.cases:
            den = math.lcm(slope.denominator, offset.denominator)
            # All terms are multiples of 1 / den, so this turns each ceiling into a floor.
            ceilings = sum_of(count, slope, offset + Fraction(den - 1, den))
            self.assertEqual(sum_of(count, -slope, -offset), -ceilings)

    def test_known_sums(self):
        count = 10 ** 20
        self.assertEqual(floor_sum(count, (1, 2), (0, 1)), count // 2 * (count // 2 - 1))
        self.assertEqual(floor_sum(count, (1, count), (0, 1)), 0)
        self.assertEqual(floor_sum(count, (1, count), (1, count)), 1)
        self.assertEqual(floor_sum(count, (-1, count), (0, 1)), 1 - count)

    def test_longest_euclid(self):
        # Neighbours in Fibonacci's row take the most steps for their size, more than calls may nest.
        one, other = 1, 1
        while other < 10 ** 400:
            one, other = other, one + other
        slope, count = Fraction(one, other), 10 ** 400
        whole = sum_of(count, slope, Fraction(1, 2))
        half = count // 2
        parts = sum_of(half, slope, Fraction(1, 2)) + sum_of(half, slope, Fraction(1, 2) + slope * half)
        self.assertEqual(whole, parts)
