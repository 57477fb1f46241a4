"""Roads: how they are made, what they tell, and the walkers who pass them."""

import copy
import unittest
from fractions import Fraction

from evenpace import roads
from evenpace.errors import CapacityExceeded, InvalidGate, NotFound, PaceError, SamePlace, UnknownGate
from evenpace.gates import normal_gate
from evenpace.roads import Road
from tests.gate_samples import SPANS, WRONG, is_shut, pair_of, plain, plan_of, some_gates, some_road, some_walker
from tests.samples import is_plain_fraction, pair, source, worth

LISTED = (
    "gates", "barring", "places", "gate_at", "moments", "passes", "first_shut", "put", "without", "joined", "later",
    "scaled", "__init__", "__eq__", "__len__", "__str__", "__repr__")


class Making(unittest.TestCase):
    def test_constant(self):
        self.assertEqual(roads.MAX_GATES, 8)

    def test_normal_form_and_order(self):
        rng = source("making roads")
        for _ in range(300):
            given = some_gates(rng, rng.randint(0, 8))
            before = copy.deepcopy(given)
            expected = sorted([normal_gate(gate) for gate in given], key=lambda gate: worth(gate[0]))
            for kind in (tuple, list):
                road = Road(kind(given))
                self.assertEqual(road.gates(), expected)
                self.assertEqual(road.places(), [gate[0] for gate in expected])
                self.assertEqual(road.barring(), [gate for gate in expected if gate[2] != ()])
                self.assertEqual(len(road), len(given))
            self.assertEqual(given, before)

    def test_places_of_twelve_digits(self):
        places = [(999999999999, 999999999998), (999999999998, 999999999997), (-1, 999999999999), (1, 999999999999)]
        road = Road([(place, (2, 1), SPANS) for place in places])
        self.assertEqual(road.places(), [places[2], places[3], places[0], places[1]])

    def test_copies_its_argument(self):
        spans = [((1, 1), (1, 1))]
        given = [((0, 1), (2, 1), spans)]
        road = Road(given)
        spans.append(((7, 1), (1, 1)))
        given.append(plain(1))
        self.assertEqual(road.gates(), [plain(0)])

    def test_new_lists(self):
        road = Road([plain(0), plain(1)])
        for told in (road.gates, road.barring, road.places):
            first = told()
            kept = list(first)
            self.assertIs(type(first), list)
            first.clear()
            self.assertEqual(told(), kept)
        road.moments(((0, 1), (0, 1))).clear()
        self.assertEqual(len(road.moments(((0, 1), (0, 1)))), 2)

    def test_methods_stand_in_the_class(self):
        for name in LISTED:
            self.assertIn(name, vars(Road))

    def test_by_keyword(self):
        self.assertEqual(Road(gates=[plain(1)]).gate_at(place=(1, 1)), plain(1))


class WrongGates(unittest.TestCase):
    def check(self, given, error, **fields):
        for kind in (tuple, list):
            with self.assertRaises(error) as caught:
                Road(kind(given))
            self.assertEqual(vars(caught.exception), {**fields, "tag": error.__name__})
            self.assertIsInstance(caught.exception, PaceError)

    def test_nine_gates(self):
        self.assertEqual(len(Road([plain(k) for k in range(8)])), 8)
        for many in (9, 10, 60):
            self.check([plain(k) for k in range(many)], CapacityExceeded, capacity=8)

    def test_invalid_gates(self):
        for at in range(8):
            given = [plain(k) for k in range(8)]
            given[at] = WRONG
            self.check(given, InvalidGate, position=at)
            given[-1] = WRONG
            self.check(given, InvalidGate, position=at)

    def test_same_places(self):
        self.check([plain(0), plain(0)], SamePlace, place=(0, 1))
        self.check([plain(3), plain(1), plain(2), plain(1), plain(3)], SamePlace, place=(1, 1))
        self.check([plain(3), plain(1), plain(2), plain(3), plain(1)], SamePlace, place=(3, 1))
        self.check([((1, 2), (3, 1), []), ((0, 1), (3, 1), []), ((1, 2), (2, 1), SPANS)], SamePlace, place=(1, 2))

    def test_order_of_the_errors(self):
        self.check([WRONG] + [plain(0)] * 8, CapacityExceeded, capacity=8)
        self.check([plain(0), plain(0), WRONG], InvalidGate, position=2)
        self.check([plain(0)] * 9, CapacityExceeded, capacity=8)
        self.check([plain(0)] * 8, SamePlace, place=(0, 1))

    def test_unknown_gates(self):
        for road in (Road([]), Road([plain(0), plain(2)])):
            for place in ((1, 1), (1, 2), (-2, 1), (10 ** 11, 7)):
                for call in (road.gate_at, road.without):
                    with self.assertRaises(UnknownGate) as caught:
                        call(place)
                    self.assertEqual(vars(caught.exception), {"place": place, "tag": "UnknownGate"})
                    self.assertIsInstance(caught.exception, NotFound)


class Walkers(unittest.TestCase):
    def check(self, road, walker):
        start, slowness = walker
        moments = road.moments(pair_of(walker))
        self.assertIs(type(moments), list)
        self.assertTrue(all([is_plain_fraction(moment) for moment in moments]))
        expected = [start + slowness * worth(place) for place in road.places()]
        self.assertEqual([worth(moment) for moment in moments], expected)
        shut = [gate[0] for gate, moment in zip(road.gates(), expected) if is_shut(plan_of(gate), moment)]
        self.assertEqual(road.first_shut(pair_of(walker)), shut[0] if shut else None)
        self.assertIs(road.passes(pair_of(walker)), not shut)
        return not shut

    def test_many(self):
        rng = source("walkers")
        passed = 0
        for _ in range(250):
            road = some_road(rng, rng.randint(0, 4), rng.randint(0, 2))
            for _ in range(4):
                passed += self.check(road, some_walker(rng))
                self.check(road, some_walker(rng, far=True))
                self.check(road, (some_walker(rng)[0], Fraction(0)))
        self.assertTrue(50 < passed < 950, passed)

    def test_gates_of_all_kinds(self):
        rng = source("walkers and gates")
        for _ in range(100):
            road = Road(some_gates(rng, rng.randint(0, 8)))
            for far in (False, True):
                self.check(road, some_walker(rng, far))

    def test_at_the_edges_of_spans(self):
        rng = source("edges of spans")
        for _ in range(60):
            road = some_road(rng, 2)
            (d, period, spans), (e, other, others) = [plan_of(gate) for gate in road.gates()]
            for one in (spans[0][0], sum(spans[0]) - period, sum(spans[0]) + Fraction(1, 10 ** 9)):
                for two in (others[-1][0], sum(others[-1]), others[-1][0] + Fraction(1, 10 ** 9)):
                    slowness = (two - one) / (e - d)
                    self.check(road, (one - slowness * d, slowness))

    def test_first_shut_is_the_least_place(self):
        # All three gates are shut at 3/2, whatever the order in which they are given.
        road = Road([plain(5), plain(-5), plain(0)])
        self.assertEqual(road.first_shut(((3, 2), (0, 1))), (-5, 1))
        self.assertEqual(road.without((-5, 1)).first_shut(((3, 2), (0, 1))), (0, 1))

    def test_no_gates(self):
        road = Road([])
        walker = ((1, 2), (-1, 3))
        self.assertEqual([road.moments(walker), road.passes(walker), road.first_shut(walker)], [[], True, None])
        self.assertEqual([road.gates(), road.barring(), road.places(), len(road)], [[], [], [], 0])

    def test_by_keyword(self):
        road, walker = Road([plain(0), plain(1)]), ((1, 2), (1, 1))
        self.assertEqual(road.moments(walker=walker), [(1, 2), (3, 2)])
        self.assertEqual((road.passes(walker=walker), road.first_shut(walker=walker)), (False, (1, 1)))

    def test_gate_at(self):
        rng = source("gate at")
        for _ in range(50):
            road = Road(some_gates(rng, 8))
            for gate in road.gates():
                self.assertEqual(road.gate_at(gate[0]), gate)

    def test_queries_change_nothing(self):
        road = some_road(source("queries"), 4, 2)
        before = road.gates()
        road.passes(((1, 2), (1, 3)))
        road.put(plain(50))
        road.without(road.places()[0])
        road.joined(Road([plain(60)]))
        road.later((1, 3), per_length=(1, 5))
        road.scaled(pair(Fraction(2, 7)))
        self.assertEqual(road.gates(), before)
