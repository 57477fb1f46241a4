"""Roads made of other roads, comparisons of roads, and their texts."""

import unittest
from fractions import Fraction

from evenpace.errors import CapacityExceeded, InvalidFactor, InvalidGate, PaceError, SamePlace
from evenpace.gates import delayed_gate, normal_gate
from evenpace.roads import Road
from tests.gate_samples import (
    WRONG, gate_of, is_same_gate, pair_of, plain, plan_of, some_gates, some_plan, some_road, some_walker)
from tests.samples import mixed, mixed_positive, pair, small, source, worth


class RoadErrors(unittest.TestCase):
    def check_error(self, call, error, **fields):
        with self.assertRaises(error) as caught:
            call()
        self.assertEqual(vars(caught.exception), {**fields, "tag": error.__name__})
        self.assertIsInstance(caught.exception, PaceError)


class MoreAndFewerGates(RoadErrors):
    def test_put_and_without(self):
        rng = source("put and without")
        for _ in range(150):
            given = some_gates(rng, rng.randint(1, 8))
            *rest, last = given
            self.assertEqual(Road(rest).put(last), Road(given))
            self.assertEqual(Road(given).without(last[0]), Road(rest))

    def test_errors_of_put(self):
        full = Road([plain(k) for k in range(8)])
        road = Road([plain(0), plain(1)])
        self.check_error(lambda: full.put(plain(9)), CapacityExceeded, capacity=8)
        self.check_error(lambda: full.put(WRONG), CapacityExceeded, capacity=8)
        self.check_error(lambda: full.put(plain(0)), CapacityExceeded, capacity=8)
        self.check_error(lambda: road.put(WRONG), InvalidGate, position=0)
        self.check_error(lambda: road.put(((1, 1), (-2, 1), ())), InvalidGate, position=0)
        self.check_error(lambda: road.put(((1, 1), (5, 1), [])), SamePlace, place=(1, 1))
        self.check_error(lambda: road.put(plain(0)), SamePlace, place=(0, 1))

    def test_put_copies(self):
        spans = [((1, 1), (1, 1))]
        road = Road([]).put(gate=((0, 1), (2, 1), spans))
        spans.clear()
        self.assertEqual(road.gates(), [plain(0)])
        self.assertEqual(len(Road([plain(k) for k in range(7)]).put(plain(7))), 8)

    def test_without_by_keyword(self):
        self.assertEqual(Road([plain(0), plain(1)]).without(place=(0, 1)), Road([plain(1)]))


class Joined(RoadErrors):
    def test_many(self):
        rng = source("joined")
        for _ in range(150):
            given = some_gates(rng, rng.randint(0, 8))
            at = rng.randint(0, len(given))
            self.assertEqual(Road(given[:at]).joined(Road(given[at:])), Road(given))

    def test_nothing(self):
        empty = Road([])
        self.assertEqual(empty.joined(empty), empty)
        self.assertEqual(empty.joined(other=Road([plain(1)])), Road([plain(1)]))

    def test_least_common_place(self):
        one, other = Road([plain(4), plain(2), plain(3)]), Road([plain(3), plain(4), plain(1), plain(5)])
        self.check_error(lambda: one.joined(other), SamePlace, place=(3, 1))
        self.check_error(lambda: other.joined(one), SamePlace, place=(3, 1))
        self.check_error(lambda: one.joined(one), SamePlace, place=(2, 1))

    def test_too_many(self):
        five = Road([plain(k) for k in range(5)])
        self.assertEqual(len(five.joined(Road([plain(k) for k in (7, 8, 9)]))), 8)
        self.check_error(lambda: five.joined(Road([plain(k) for k in (6, 7, 8, 9)])), CapacityExceeded, capacity=8)
        # Too many gates come first, also if places are the same.
        self.check_error(lambda: five.joined(five), CapacityExceeded, capacity=8)


class Later(unittest.TestCase):
    def test_each_gate(self):
        rng = source("later gates")
        for _ in range(150):
            road = Road(some_gates(rng, rng.randint(0, 8)))
            delay, per_length = mixed(rng), mixed(rng)
            result = road.later(pair(delay), per_length=pair(per_length)).gates()
            shifts = [pair(delay + per_length * worth(place)) for place in road.places()]
            expected = [delayed_gate(gate, shift) for gate, shift in zip(road.gates(), shifts)]
            self.assertEqual(result, expected)

    def test_walkers(self):
        rng = source("later walkers")
        for _ in range(200):
            road = some_road(rng, rng.randint(1, 4), rng.randint(0, 1))
            x, v = some_walker(rng, far=rng.random() < 0.2)
            later = road.later(pair(x), per_length=pair(v))
            for _ in range(5):
                start, slowness = small(rng), small(rng)
                self.assertIs(road.passes(pair_of((start, slowness))), later.passes(pair_of((start + x, slowness + v))))

    def test_no_delay_per_length(self):
        road = Road([plain(0), plain(3)])
        self.assertEqual(road.later((1, 2)), road.later((1, 2), per_length=(0, 1)))
        self.assertEqual(road.later(delay=(0, 1)), road)
        self.assertNotEqual(road.later((1, 2)), road.later((1, 2), per_length=(1, 2)))

    def test_per_length_is_keyword_only(self):
        with self.assertRaises(TypeError):
            Road([plain(0)]).later((1, 2), (0, 1))

    def test_there_and_back(self):
        rng = source("later and back")
        for _ in range(50):
            road, x, v = some_road(rng), mixed(rng), mixed(rng)
            there = road.later(pair(x), per_length=pair(v))
            self.assertEqual(there.later(pair(-x), per_length=pair(-v)), road)


class Scaled(RoadErrors):
    def test_many(self):
        rng = source("scaled")
        for _ in range(150):
            road, factor = Road(some_gates(rng, rng.randint(0, 8))), mixed_positive(rng)
            result = road.scaled(pair(factor))
            for gate, found in zip(road.gates(), result.gates(), strict=True):
                place, period, spans = plan_of(gate)
                longer = [(begin * factor, length * factor) for begin, length in spans]
                expected = (place, period * factor if spans else Fraction(1), longer)
                self.assertEqual(plan_of(found), expected)

    def test_no_span(self):
        gate = ((1, 2), (1, 1), ())
        self.assertEqual(Road([gate]).scaled(factor=(7, 3)).gates(), [gate])

    def test_wrong_factors(self):
        for road in (Road([]), Road([plain(0)])):
            for factor in ((0, 1), (-1, 1), (-1, 10 ** 50)):
                self.check_error(lambda: road.scaled(factor), InvalidFactor, factor=factor)


class Comparisons(unittest.TestCase):
    def check(self, one, other, expected):
        self.assertIs(one == other, expected)
        self.assertIs(other == one, expected)
        self.assertIs(one != other, not expected)
        self.assertIs(other != one, not expected)

    def test_equal_gates(self):
        rng = source("equal roads")
        for _ in range(100):
            given = some_gates(rng, rng.randint(1, 8))
            road = Road(given)
            self.check(road, road, True)
            self.check(road, Road(rng.sample(given, len(given))), True)
            self.check(road, Road(tuple([normal_gate(gate) for gate in given])), True)
            self.check(road, Road(given[1:]), False)
            changed = gate_of(some_plan(rng, place=worth(given[0][0])))
            same = is_same_gate(plan_of(changed), plan_of(given[0]))
            self.check(road, Road([changed, *given[1:]]), same)

    def test_same_walkers_but_other_gates(self):
        self.check(Road([]), Road([((0, 1), (1, 1), ())]), False)
        self.check(Road([((0, 1), (3, 1), ())]), Road([((0, 1), (1, 1), ())]), True)
        self.check(Road([]), Road(()), True)

    def test_other_kinds(self):
        road = Road([plain(0)])
        for other in (None, 0, 1, "0 every 2 1+1\n", road.gates(), tuple(road.gates()), plain(0), {}, set(), Road):
            self.check(road, other, False)


class Texts(unittest.TestCase):
    def test_texts(self):
        half = Fraction(1, 2)
        road = Road([
            gate_of((3, 5, [])),
            gate_of((half, 2, [(0, Fraction(1, 3)), (1, 1)])),
            gate_of((-half, Fraction(22, 7), [(Fraction(1, 7), half)]))])
        self.assertEqual(str(road), "-1/2 every 22/7 1/7+1/2\n1/2 every 2 0+1/3 1+1\n3 every 1\n")
        self.assertEqual(str(Road([])), "")

    def test_normal_form_is_written(self):
        self.assertEqual(str(Road([gate_of((0, 2, [(0, Fraction(1, 2)), (1, Fraction(1, 2))]))])), "0 every 1 0+1/2\n")

    def test_many(self):
        rng = source("texts of roads")
        for _ in range(100):
            road = Road(some_gates(rng, rng.randint(0, 8)))
            rows = []
            # Python's own Fraction has the text of [18].
            for place, period, spans in map(plan_of, road.gates()):
                told = [f" {begin}+{length}" for begin, length in spans]
                rows.append(f"{place} every {period}" + "".join(told) + "\n")
            self.assertEqual(str(road), "".join(rows))

    def test_repr(self):
        for many in range(9):
            self.assertEqual(repr(Road([plain(k) for k in range(many)])), f"Road({many} gates)")
