"""Bases and solutions of congruences."""

import itertools
import math
import unittest
from fractions import Fraction

from evenpace.lattices import congruence_basis, congruence_solution
from tests.samples import large, pair, small, source


def determinant(rows):
    """The determinant of a square matrix, by elimination over Fractions."""
    rows = [[Fraction(entry) for entry in row] for row in rows]
    result = Fraction(1)
    while rows:
        pivot = next((row for row in rows if row[0] != 0), None)
        if pivot is None:
            return Fraction(0)
        at = rows.index(pivot)
        result *= pivot[0] * (-1) ** at
        rest = rows[:at] + rows[at + 1:]
        rows = [[x - row[0] / pivot[0] * y for x, y in zip(row[1:], pivot[1:])] for row in rest]
    return result


def least_multiple(values):
    return math.lcm(*[value.denominator for value in values])


def combined(row, values):
    return sum([entry * value for entry, value in zip(row, values, strict=True)], start=Fraction(0))


def some_values(rng):
    """Zero to eight Fractions: small or large ones, integers, zero and repeated ones."""
    choice = rng.choice([
        small,
        large,
        lambda rng: Fraction(rng.randint(-99, 99), rng.choice([1, 6, 12, 60, 360, 5040])),
        lambda rng: Fraction(rng.randint(-5, 5)),
        lambda rng: Fraction(0),
    ])
    values = [choice(rng) for _ in range(rng.randint(0, 8))]
    if values and rng.random() < 0.4:
        values[rng.randrange(len(values))] = rng.choice([*values, -values[0], Fraction(0), Fraction(3), small(rng)])
    return values


class Lattices(unittest.TestCase):
    def check_row(self, row, values):
        self.assertIs(type(row), list)
        self.assertEqual([type(entry) for entry in row], [int] * len(values))


class Basis(Lattices):
    def check(self, values):
        given = [pair(value) for value in values]
        rows = congruence_basis(given)
        self.assertIs(type(rows), list)
        self.assertEqual(len(rows), len(values))
        for row in rows:
            self.check_row(row, values)
            self.assertEqual(combined(row, values).denominator, 1)
        # The rows of integers with an integer combination have this index among all rows.
        self.assertEqual(abs(determinant(rows)), least_multiple(values))
        # The steps of a road rely on the triangular form.
        for at, row in enumerate(rows):
            self.assertGreater(row[at], 0)
            self.assertFalse(any(row[at + 1:]))
        self.assertEqual(given, [pair(value) for value in values])
        self.assertEqual(congruence_basis(tuple(given)), rows)

    def test_many(self):
        rng = source("basis")
        for _ in range(1500):
            self.check(some_values(rng))

    def test_all_pairs_of_small_fractions(self):
        small_values = sorted({Fraction(num, den) for den in range(1, 7) for num in range(-den, 2 * den)})
        for values in itertools.product(small_values, repeat=2):
            self.check(values)

    def test_edges(self):
        self.assertEqual(congruence_basis([]), [])
        self.check([])
        self.check([Fraction(0)] * 8)
        self.check([Fraction(7)] * 8)
        self.check([Fraction(1, 6)] * 8)
        self.check([Fraction(1, den) for den in (2, 3, 5, 7, 11, 13, 17, 19)])
        self.check([Fraction(-1, 10 ** 99 + 289), Fraction(2, 10 ** 99)])

    def test_each_row_of_integers_is_combined(self):
        values = [Fraction(1, 4), Fraction(5, 6), Fraction(-1, 2)]
        rows = congruence_basis([pair(value) for value in values])
        for row in itertools.product(range(-6, 7), repeat=3):
            if combined(row, values).denominator == 1:
                for at in range(3):
                    # Cramer's rule for the coefficient of the row with this number.
                    replaced = [*rows[:at], list(row), *rows[at + 1:]]
                    self.assertEqual((determinant(replaced) / determinant(rows)).denominator, 1)

    def test_new_lists(self):
        values = [(1, 2), (1, 3)]
        first = congruence_basis(values)
        kept = [list(row) for row in first]
        first[0][0] += 5
        first.append([])
        self.assertEqual(congruence_basis(values=values), kept)


class Solution(Lattices):
    def check(self, values, target, *, exists):
        given = [pair(value) for value in values]
        row = congruence_solution(given, pair(target))
        if exists:
            self.check_row(row, values)
            self.assertEqual((combined(row, values) - target).denominator, 1)
        else:
            self.assertIsNone(row)
        self.assertEqual(given, [pair(value) for value in values])
        self.assertEqual(congruence_solution(given, pair(target)), row)
        self.assertEqual(congruence_solution(tuple(given), pair(target)), row)

    def test_integer_combinations(self):
        rng = source("combinations")
        for _ in range(1500):
            values = some_values(rng)
            row = [rng.randint(-9, 9) for _ in values]
            self.check(values, combined(row, values) + rng.randint(-3, 3), exists=True)

    def test_near_and_arbitrary_targets(self):
        rng = source("targets")
        for _ in range(1500):
            values = some_values(rng)
            multiple = least_multiple(values)
            # The combinations are the multiples of 1 / multiple, as Bezout's identity says.
            near = combined([rng.randint(-9, 9) for _ in values], values)
            near += Fraction(rng.randint(-2, 2), multiple * rng.randint(1, 3))
            for target in (near, small(rng), large(rng), Fraction(1, multiple), Fraction(1, 2 * multiple)):
                self.check(values, target, exists=multiple % target.denominator == 0)

    def test_small_ones_by_trying_all_rows(self):
        rng = source("trying")
        for _ in range(150):
            values = [Fraction(rng.randint(-6, 6), rng.randint(1, 6)) for _ in range(rng.randint(0, 3))]
            ranges = [range(value.denominator) for value in values]
            reached = {combined(row, values) % 1 for row in itertools.product(*ranges)}
            for den in range(1, 13):
                for num in range(-den, den + 1):
                    target = Fraction(num, den)
                    self.check(values, target, exists=target % 1 in reached)

    def test_edges(self):
        self.assertEqual(congruence_solution([], (5, 1)), [])
        self.assertIsNone(congruence_solution([], (1, 2)))
        self.check([Fraction(0)] * 8, Fraction(-3), exists=True)
        self.check([Fraction(4)] * 8, Fraction(1, 2), exists=False)
        self.check([Fraction(1, den) for den in (2, 3, 5, 7, 11, 13, 17, 19)], Fraction(-1, 9699690), exists=True)

    def test_new_list_and_keywords(self):
        first = congruence_solution(values=[(1, 2), (1, 4)], target=(3, 4))
        kept = list(first)
        first.append(1)
        self.assertEqual(congruence_solution(target=(3, 4), values=[(1, 2), (1, 4)]), kept)
