"""Closures, and what is none."""

import copy
import unittest
from fractions import Fraction

from evenpace.closures import check_closure, closure
from evenpace.errors import NotCrossed, PaceError, Passable, TooWide
from evenpace.pieces import pieces
from evenpace.roads import Road
from evenpace.steps import turns
from tests.gate_samples import gate_of, plain
from tests.piece_model import calm_road, fine_road, is_wide, plans_of, two_plain, wide_pair_road, window_of
from tests.samples import source

SMALL = Road([((k, 1), (1, 1), (((k % 2, 4), (1, 1)),)) for k in range(3)])


def is_node(plans, row, node):
    """Whether a node is correct, in the words of [13]."""
    low, high, first, children = node
    j = len(row)
    if j == len(plans):
        return False
    bounds = []
    for i, k in (low, high):
        if not 0 <= i < k < j:
            return False
        u = (plans[j][0] - plans[i][0]) / (plans[k][0] - plans[i][0])
        (begin, end), (early, late) = window_of(plans[i], row[i]), window_of(plans[k], row[k])
        bounds.append((u * early + (1 - u) * end, u * late + (1 - u) * begin))
    if not bounds[0][0] > window_of(plans[j], first - 1)[1]:
        return False
    if not bounds[1][1] < window_of(plans[j], first + len(children))[0]:
        return False
    return all([is_node(plans, (*row, first + c), child) for c, child in enumerate(children)])


def is_closure(road, certificate):
    """Whether a list is a closure, in the words of [14]."""
    plans = plans_of(road)
    a, b, c = turns(road)
    rows = [(one, two) for two in range(c * len(plans[1][2])) for one in range(a * len(plans[0][2]))]
    return len(rows) == len(certificate) and all([is_node(plans, row, node) for row, node in zip(rows, certificate)])


def shut_roads(rng, many, barring=None):
    """So many roads that nobody passes."""
    found = []
    while len(found) < many:
        gates = barring or len(found) % 6 + 3
        road = calm_road(rng, gates, rng.randint(0, 8 - gates), rng.choice([0.2, 0.5, 0.8]))
        if not is_wide(road) and not pieces(road):
            found.append(road)
    return found


def deepest(nodes):
    """How deep the nodes of a list stand."""
    return 1 + max([deepest(node[3]) for node in nodes], default=0) if nodes else 0


def deep_roads(rng, many, barring, depth):
    """Roads that nobody passes, but whose first gates let somebody pass."""
    found = []
    while len(found) < many:
        found += [road for road in shut_roads(rng, 4, barring) if deepest(closure(road)) >= depth]
    return found[:many]


def check_kinds(test, nodes):
    """Check that nodes are made of tuples, lists and integers as [13] and the interface say."""
    test.assertIs(type(nodes), list)
    for node in nodes:
        test.assertEqual((type(node), len(node)), (tuple, 4))
        low, high, first, children = node
        test.assertEqual([type(low), *map(type, low)], [tuple, int, int])
        test.assertEqual([type(high), *map(type, high)], [tuple, int, int])
        test.assertIs(type(first), int)
        check_kinds(test, children)


class Closures(unittest.TestCase):
    def check(self, road):
        result = closure(road)
        check_kinds(self, result)
        self.assertTrue(is_closure(road, result), str(road))
        self.assertIs(check_closure(road, result), True)
        self.assertIs(check_closure(road, tuple(result)), True)
        self.assertEqual(closure(road), result)
        return deepest(result)

    def test_many(self):
        rng = source("closures")
        depths = [self.check(road) for road in shut_roads(rng, 90)]
        self.assertGreater(len(set(depths)), 2)

    def test_deep_ones(self):
        rng = source("deep closures")
        for barring in range(4, 9):
            for road in deep_roads(rng, 2, barring, min(barring - 2, 5)):
                self.check(road)

    def test_eight_gates_to_the_last(self):
        # All gates but the last one are open at integers only, and the last one never then.
        points = [((k, 1), (1, 1), (((0, 1), (1, 1)),)) for k in range(7)]
        road = Road([*points, ((7, 1), (1, 1), (((1, 2), (1, 1)),))])
        self.assertEqual(self.check(road), 6)

    def test_order_of_the_nodes(self):
        rng = source("order of nodes")
        seen = 0
        for road in shut_roads(rng, 60, 3):
            a, b, c = turns(road)
            plans = plans_of(road)
            many = a * len(plans[0][2]), c * len(plans[1][2])
            self.assertEqual(len(closure(road)), many[0] * many[1])
            seen += many[0] > 1 and many[1] > 1
        self.assertGreater(seen, 3)

    def test_passable(self):
        rng = source("passable")
        passed = 0
        while passed < 40:
            road = calm_road(rng, rng.randint(2, 8), 0, rng.choice([0.0, 0.3]))
            if is_wide(road) or not pieces(road):
                continue
            passed += 1
            with self.assertRaises(Passable) as caught:
                closure(road)
            walker = caught.exception.walker
            self.assertEqual(vars(caught.exception), {"walker": walker, "tag": "Passable"})
            self.assertIsInstance(caught.exception, PaceError)
            self.assertIs(type(walker), tuple)
            self.assertTrue(road.passes(walker))
            with self.assertRaises(Passable) as again:
                closure(Road(road.gates()))
            self.assertEqual(again.exception.walker, walker)

    def test_two_gates_always_let_somebody_pass(self):
        point = (((0, 1), (1, 1)),)
        for road in (two_plain(), Road([((0, 1), (1, 1), point), ((1, 3), (1, 1), point)])):
            with self.assertRaises(Passable):
                closure(road=road)
            self.assertIs(check_closure(road, []), False)
            self.assertIs(check_closure(road, [((0, 1), (0, 1), 0, [])]), False)

    def test_new_lists(self):
        first = closure(SMALL)
        kept = copy.deepcopy(first)
        first[0][3].append("more")
        first.clear()
        self.assertEqual(closure(SMALL), kept)


class Checks(unittest.TestCase):
    def check(self, road, certificate):
        before = copy.deepcopy(certificate)
        result = check_closure(road, certificate)
        self.assertIs(result, is_closure(road, certificate), (str(road), certificate))
        self.assertEqual(certificate, before)
        return result

    def changes(self, rng, node, many):
        """Nodes that differ a little from a node for a row of so many windows."""
        low, high, first, children = node
        pairs = [(0, many), (-1, 0), (1, 0), (1, 1), (many - 1, many), (0, 10 ** 99), (0, 1), (many - 2, many - 1)]
        found = [(pair, high, first, children) for pair in pairs] + [(low, pair, first, children) for pair in pairs]
        found += [(low, high, first + k, children) for k in (-10 ** 99, -2, -1, 1, 2, 10 ** 99)]
        one = ((0, 1), (0, 1), 0, [])
        found += [(low, high, first, children + [child]) for child in [one, *children[:1]]]
        found += [(low, high, first, children[:-1]), (low, high, first, children[1:]), (low, high, first, [])]
        found += [(low, high, first + 1, children[1:]), (low, high, first - 1, [one, *children])]
        if children:
            at = rng.randrange(len(children))
            for child in self.changes(rng, children[at], many + 1):
                found.append((low, high, first, children[:at] + [child] + children[at + 1:]))
        return found

    def test_changed_nodes(self):
        rng = source("changed nodes")
        results = []
        roads = shut_roads(rng, 18) + deep_roads(rng, 4, 5, 3) + deep_roads(rng, 3, 8, 4)
        for road in roads:
            certificate = closure(road)
            at = rng.randrange(len(certificate))
            for node in self.changes(rng, certificate[at], 2):
                results.append(self.check(road, certificate[:at] + [node] + certificate[at + 1:]))
        self.assertGreater(results.count(False), 500)
        self.assertGreater(results.count(True), 50)

    def test_changed_lists(self):
        rng = source("changed lists")
        exchanged = []
        for road in shut_roads(rng, 60):
            certificate = closure(road)
            at, other = rng.randrange(len(certificate)), rng.randrange(len(certificate))
            self.assertIs(self.check(road, certificate[:at] + certificate[at + 1:]), False)
            self.assertIs(self.check(road, certificate + [certificate[at]]), False)
            self.assertIs(self.check(road, certificate[:at + 1] + certificate[at:]), False)
            self.assertIs(self.check(road, []), False)
            self.assertIs(self.check(road, certificate * 2), False)
            changed = list(certificate)
            changed[at], changed[other] = changed[other], changed[at]
            exchanged.append(self.check(road, changed))
            self.check(road, certificate[::-1])
        self.assertTrue(True in exchanged and False in exchanged)

    def test_more_children_than_needed(self):
        # A child for a window that nobody reaches is correct if nothing can follow it.
        rng = source("more children")
        grown = 0
        for road in shut_roads(rng, 25, 4):
            certificate = closure(road)
            low, high, first, children = certificate[0]
            for extra in (0, 1, -1, 2):
                for start in range(first - 3, first + 6):
                    node = (low, high, first - 1, [((0, 1), (0, 1), start + extra, []), *children])
                    grown += self.check(road, [node, *certificate[1:]])
        self.assertGreater(grown, 0)

    def test_too_deep(self):
        node = ((0, 1), (0, 1), 1, [])
        for _ in range(9):
            node = ((0, 1), (0, 1), 1, [node])
            self.assertIs(self.check(SMALL, [node]), False)
        # A node for a row of all gates is never correct, whatever its pairs say.
        points = [((k, 1), (1, 1), (((0, 1), (1, 1)),)) for k in range(3)]
        for deep in ([], [((0, 1), (0, 1), 0, [])], [((1, 2), (0, 2), 0, [])]):
            for first in (-1, 0, 1):
                self.assertIs(self.check(Road(points), [((0, 1), (0, 1), first, deep)]), False)

    def test_tuples_for_lists_and_keywords(self):
        rng = source("tuples in closures")
        for road in shut_roads(rng, 12):
            certificate = closure(road)
            self.assertIs(check_closure(certificate=frozen(certificate), road=road), True)
            self.assertIs(check_closure(road, frozen(certificate[1:])), False)

    def test_other_roads(self):
        rng = source("closures of others")
        roads = shut_roads(rng, 20, 3)
        for road, other in zip(roads, roads[1:]):
            self.check(road, closure(other))

    def test_large_lists(self):
        # Far more children than the limit for rows, one for each moment at 2 from 10 ** 6 - 1999 to 10 ** 6.
        road = fine_road(3, 2000, period=10 ** 6).put(((3, 1), (10 ** 6, 1), (((10 ** 5, 1), (10 ** 6, 1)),)))
        children = [((0, 1), (0, 1), 0, []) for _ in range(2000)]
        self.assertIs(self.check(road, [((0, 1), (0, 1), 998000, children)]), True)
        self.assertIs(self.check(road, [((0, 1), (0, 1), 998001, children)]), False)
        self.assertIs(self.check(road, [((0, 1), (0, 1), 998000, children[1:])]), False)
        children[1234] = ((0, 1), (0, 1), 1, [])
        self.assertIs(self.check(road, [((0, 1), (0, 1), 998000, children)]), False)
        with self.assertRaises(TooWide) as caught:
            closure(road)
        self.assertEqual(caught.exception.stage, 3)


def frozen(nodes):
    """Nodes with tuples for all lists."""
    return tuple([(low, high, first, frozen(children)) for low, high, first, children in nodes])


class Errors(unittest.TestCase):
    def check(self, call, error, **fields):
        with self.assertRaises(error) as caught:
            call()
        self.assertEqual(vars(caught.exception), {**fields, "tag": error.__name__})

    def test_not_crossed(self):
        for road, quantity in ((Road([]), 0), (Road([plain(0), ((1, 1), (1, 1), ())]), 1)):
            self.check(lambda: closure(road), NotCrossed, quantity=quantity)
            self.check(lambda: check_closure(road, []), NotCrossed, quantity=quantity)

    def test_too_wide_at_stage_2(self):
        for road in (wide_pair_road(3, 1, 167), wide_pair_road(6, 6, 14)):
            self.check(lambda: closure(road), TooWide, stage=2)
            self.check(lambda: check_closure(road, []), TooWide, stage=2)
        self.assertIs(check_closure(wide_pair_road(5, 5, 20), []), False)

    def test_too_wide_later(self):
        for stage in range(3, 9):
            for quantity in (501, 10 ** 9):
                road = fine_road(stage, quantity, period=10 ** 12)
                self.check(lambda: closure(road), TooWide, stage=stage)
                self.assertIs(check_closure(road, []), False)
                self.assertIs(check_closure(road, [((0, 1), (0, 1), 0, [])]), False)

    def test_large_numbers(self):
        big, part = 999999999989, Fraction(1, 999999999961)
        plans = [(Fraction(k, big), Fraction(big), [(part, Fraction(big))]) for k in (0, 1)]
        plans.append((Fraction(2, big), Fraction(big), [(2 * part, Fraction(big))]))
        road = Road([gate_of(plan) for plan in plans])
        result = closure(road)
        self.assertTrue(is_closure(road, result))
        self.assertIs(check_closure(road, result), True)
