"""Base steps, steps, the base cell, and the turns of the first two barring gates."""

import math
import unittest
from fractions import Fraction

from evenpace.errors import NotCrossed, PaceError
from evenpace.roads import Road
from evenpace.steps import in_cell, is_step, steps, turns
from tests.gate_samples import large_road, pair_of, plain, plan_of, some_road, some_walker
from tests.samples import is_plain_fraction, mixed, small, source, worth


def common_multiple(values):
    """The least positive Fraction that is an integer multiple of all."""
    num = math.lcm(*[value.numerator for value in values])
    return Fraction(num, math.gcd(*[value.denominator for value in values]))


def greatest_divisor(one, other):
    """The greatest Fraction of which both are integer multiples."""
    den = math.lcm(one.denominator, other.denominator)
    return Fraction(math.gcd(int(one * den), int(other * den)), den)


def gates_of(road):
    """The places and periods of the barring gates."""
    return [plan_of(gate)[:2] for gate in road.gates() if gate[2]]


def turns_of(road, step):
    """How many periods a pair turns each barring gate by."""
    return [(step[0] + step[1] * place) / period for place, period in gates_of(road)]


def is_step_of(road, step):
    return all([turned.denominator == 1 for turned in turns_of(road, step)])


def base_of(road):
    """The base steps as the three Fractions p, q, r."""
    (p, zero), (q, r) = steps(road)
    return worth(p), worth(q), worth(r)


def some_roads(name, many):
    """Roads of two to eight barring gates; some have other gates, too, and some have large numbers."""
    rng = source(name)
    for k in range(many):
        barring = k % 7 + 2
        if k % 5 == 0:
            yield rng, large_road(rng, barring)
        else:
            yield rng, some_road(rng, barring, idle=rng.randint(0, 8 - barring))


class BaseSteps(unittest.TestCase):
    def check(self, road):
        result = steps(road)
        self.assertEqual([type(result), type(result[0]), type(result[1])], [tuple, tuple, tuple])
        self.assertTrue(all([is_plain_fraction(value) for step in result for value in step]), result)
        self.assertEqual(result[0][1], (0, 1))
        p, q, r = base_of(road)
        gates = gates_of(road)
        self.assertEqual(p, common_multiple([period for place, period in gates]))
        # A slowness belongs to a step if and only if the gates agree two by two on where its start may be.
        shares = []
        for at, (place, period) in enumerate(gates):
            shares += [greatest_divisor(period, other) / (far - place) for far, other in gates[at + 1:]]
        self.assertEqual(r, common_multiple(shares))
        self.assertTrue(0 <= q < p)
        self.assertTrue(is_step_of(road, (q, r)))

    def test_many(self):
        for rng, road in some_roads("base steps", 350):
            self.check(road)

    def test_few_and_many_gates(self):
        for many in range(2, 9):
            self.check(Road([((k, 1), (k + 1, 3), (((0, 1), (1, 3)),)) for k in range(many)]))
            self.check(Road([plain(3 - k) for k in range(many)]))

    def test_least_period_counts(self):
        # The second gate is written with three periods as one.
        spans = (((0, 1), (1, 2)), ((1, 1), (1, 2)), ((2, 1), (1, 2)))
        road = Road([((0, 1), (1, 1), (((0, 1), (1, 2)),)), ((1, 1), (3, 1), spans)])
        self.assertEqual(steps(road), (((1, 1), (0, 1)), ((0, 1), (1, 1))))

    def test_gates_without_a_span_do_not_count(self):
        for rng, road in some_roads("idle gates", 50):
            if len(road) < 8:
                self.assertEqual(steps(road.put(((10 ** 12, 7), (5, 3), ()))), steps(road))
                self.assertEqual(turns(road.put(((-10 ** 12, 7), (5, 3), ()))), turns(road))

    def test_all_small_pairs(self):
        for rng, road in some_roads("small pairs", 40):
            p, q, r = base_of(road)
            for num in range(-6, 7):
                for other in range(-6, 7):
                    pair = (Fraction(num, 2) * p / 2, Fraction(other, 2) * r)
                    start = pair[0] - other // 2 * q
                    combined = other % 2 == 0 and (start / p).denominator == 1
                    self.assertIs(is_step(road, pair_of(pair)), combined)


class Steps(unittest.TestCase):
    def test_combinations(self):
        for rng, road in some_roads("combinations of steps", 150):
            p, q, r = base_of(road)
            for most in (3, 10 ** 9, 10 ** 60):
                along, across = rng.randint(-most, most), rng.randint(-most, most)
                step = (along * p + across * q, across * r)
                self.assertIs(is_step(road, pair_of(step)), True)
                for near in ((step[0] + p / 2, step[1]), (step[0], step[1] + r / 2), (step[0] + 1, step[1] - 1)):
                    self.assertIs(is_step(road, pair_of(near)), is_step_of(road, near))
                self.assertIs(is_step(road, pair_of((step[0] + p / 2, step[1]))), False)

    def test_arbitrary_pairs(self):
        for rng, road in some_roads("arbitrary pairs", 150):
            for pair in ((mixed(rng), mixed(rng)), (Fraction(0), small(rng)), (small(rng), Fraction(0))):
                self.assertIs(is_step(road, pair_of(pair)), is_step_of(road, pair))
            self.assertIs(is_step(road, ((0, 1), (0, 1))), True)

    def test_each_gate_counts(self):
        road = Road([((place, 1), (period, 1), (((0, 1), (1, 1)),)) for place, period in ((0, 2), (1, 3), (2, 5))])
        self.assertEqual([is_step(road, ((x, 1), (0, 1))) for x in (6, 10, 15, 30)], [False, False, False, True])

    def test_walkers_moved_by_a_step(self):
        for rng, road in some_roads("moved walkers", 100):
            p, q, r = base_of(road)
            start, slowness = some_walker(rng)
            along, across = rng.randint(-10 ** 20, 10 ** 20), rng.randint(-9, 9)
            moved = (start + along * p + across * q, slowness + across * r)
            self.assertIs(road.passes(pair_of(moved)), road.passes(pair_of((start, slowness))))


class BaseCell(unittest.TestCase):
    def check(self, road, walker):
        p, q, r = base_of(road)
        result = in_cell(road, pair_of(walker))
        self.assertIs(type(result), tuple)
        self.assertTrue(all([is_plain_fraction(value) for value in result]), result)
        start, slowness = [worth(value) for value in result]
        self.assertTrue(0 <= start < p and 0 <= slowness < r)
        self.assertTrue(is_step_of(road, (walker[0] - start, walker[1] - slowness)))

    def test_many(self):
        for rng, road in some_roads("base cell", 200):
            self.check(road, some_walker(rng))
            self.check(road, some_walker(rng, far=True))

    def test_edges(self):
        for rng, road in some_roads("edges of the cell", 100):
            p, q, r = base_of(road)
            little = Fraction(1, 10 ** 40)
            for start in (Fraction(0), p, -p, p - little, -little):
                for slowness in (Fraction(0), r, -r, r - little, -little):
                    self.check(road, (start, slowness))
            self.assertEqual(in_cell(road, pair_of((p, Fraction(0)))), ((0, 1), (0, 1)))
            self.assertEqual(in_cell(road, pair_of((q, r))), ((0, 1), (0, 1)))
            inside = pair_of((p * Fraction(999, 1000), r * Fraction(999, 1000)))
            self.assertEqual(in_cell(road, inside), inside)

    def test_copies_meet(self):
        for rng, road in some_roads("copies", 100):
            p, q, r = base_of(road)
            start, slowness = some_walker(rng)
            along, across = rng.randint(-10 ** 50, 10 ** 50), rng.randint(-10 ** 50, 10 ** 50)
            moved = (start + along * p + across * q, slowness + across * r)
            self.assertEqual(in_cell(road, pair_of(moved)), in_cell(road, pair_of((start, slowness))))


class Turns(unittest.TestCase):
    def check(self, road):
        result = turns(road)
        self.assertEqual([type(result), *map(type, result)], [tuple, int, int, int])
        a, b, c = result
        self.assertTrue(a > 0 and c > 0 and 0 <= b < a, result)
        p, q, r = base_of(road)
        (place, period), (far, other) = gates_of(road)[:2]
        for one, two in ((a, 0), (b, c)):
            y = (two * other - one * period) / (far - place)
            self.assertTrue(is_step_of(road, (one * period - y * place, y)))
        # Both are pairs of turns, and there are no more pairs than their combinations.
        self.assertEqual(a * c * period * other / (far - place), p * r)
        seconds = [turns_of(road, step)[1] for step in ((p, Fraction(0)), (q, r))]
        self.assertEqual(c, math.gcd(*[int(turned) for turned in seconds]))

    def test_many(self):
        for rng, road in some_roads("turns", 350):
            self.check(road)

    def test_two_gates_turn_freely(self):
        rng = source("two gates")
        for _ in range(30):
            self.assertEqual(turns(some_road(rng, 2, 3)), (1, 0, 1))
            self.assertEqual(turns(large_road(rng, 2)), (1, 0, 1))

    def test_third_gate(self):
        # The third gate turns by 2 * second - first periods of length 1, and its own period is 3.
        spans = (((0, 1), (1, 2)),)
        road = Road([((0, 1), (1, 1), spans), ((1, 1), (1, 1), spans), ((2, 1), (3, 1), spans)])
        self.assertEqual(turns(road), (3, 2, 1))


class NotCrossedRoads(unittest.TestCase):
    def test_fewer_than_two_barring_gates(self):
        idle = [((k, 1), (2, 1), ()) for k in range(1, 8)]
        given = [(Road([]), 0), (Road(idle), 0), (Road([plain(0)]), 1), (Road([plain(0), *idle]), 1)]
        pair = ((0, 1), (0, 1))
        for road, quantity in given:
            calls = (lambda: steps(road), lambda: turns(road), lambda: is_step(road, pair), lambda: in_cell(road, pair))
            for call in calls:
                with self.assertRaises(NotCrossed) as caught:
                    call()
                self.assertEqual(vars(caught.exception), {"quantity": quantity, "tag": "NotCrossed"})
                self.assertIsInstance(caught.exception, PaceError)

    def test_by_keyword(self):
        road = Road([plain(0), plain(1)])
        self.assertEqual(steps(road=road), steps(road))
        self.assertEqual(turns(road=road), (1, 0, 1))
        self.assertIs(is_step(pair=((2, 1), (2, 1)), road=road), True)
        self.assertEqual(in_cell(walker=((5, 2), (-1, 1)), road=road), ((1, 2), (1, 1)))

    def test_wide_roads_are_no_matter(self):
        # Far more than 500 rows of windows: the periods share no factor.
        spans = (((0, 1), (1, 1)),)
        periods = (999999999989, 999999999961, 999999999937)
        road = Road([((k, 1), (period, 1), spans) for k, period in enumerate(periods)])
        self.assertEqual(steps(road)[0], ((math.prod(periods), 1), (0, 1)))
        self.assertEqual(in_cell(road, ((-1, 1), (0, 1)))[1], (0, 1))
