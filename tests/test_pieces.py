"""Pieces, the walkers of their copies, their share, and the moments at places."""

import copy
import math
import unittest
from fractions import Fraction

from evenpace.errors import NotCrossed, PaceError, TooWide
from evenpace.pieces import passage, piece_at, pieces, share
from evenpace.roads import Road
from tests.gate_samples import gate_of, is_shut, pair_of, plain, plan_of, some_road, some_walker
from tests.piece_model import (
    Wide, base_of, calm_road, calm_roads, crowded_road, fine_road, fractions_of, model_pieces, narrow_roads, plans_of,
    two_plain, wide_pair_road, window_of)
from tests.samples import is_plain_fraction, mixed, pair, source, worth

WALKER = ((1, 3), (2, 5))
FUNCTIONS = (pieces, share, lambda road: piece_at(road, WALKER), lambda road: passage(road, (1, 2)))


def is_within(corners, point):
    """Whether a point lies in the shape with these corners: not on the outside of any way between two of them."""
    for one in corners:
        if all([(other[0] - one[0], other[1] - one[1]) == (0, 0) for other in corners]):
            return point == one
    x, y = point
    for (a, b) in corners:
        for (c, d) in corners:
            sides = [(c - a) * (v - b) - (d - b) * (u - a) for u, v in corners]
            here = (c - a) * (y - b) - (d - b) * (x - a)
            if (a, b) != (c, d) and min(sides) >= 0 > here:
                return False
    low, high = min(corners), max(corners)
    return low <= point <= high and min([y for x, y in corners]) <= y <= max([y for x, y in corners])


def area_of(corners):
    """The area, as the sum of the triangles that a way around by angles makes."""
    if len(corners) < 3:
        return Fraction(0)
    x = sum([corner[0] for corner in corners]) / len(corners)
    y = sum([corner[1] for corner in corners]) / len(corners)
    around = sorted([(start - x, slowness - y) for start, slowness in corners], key=Turn)
    return sum([a * d - b * c for (a, b), (c, d) in zip(around, around[1:] + around[:1])]) / 2


class Turn:
    """Sorts points around zero by their angles."""

    def __init__(self, point):
        self.point = point

    def __lt__(self, other):
        (a, b), (c, d) = self.point, other.point
        one, two = (b < 0 or b == 0 and a < 0), (d < 0 or d == 0 and c < 0)
        return two if one != two else a * d - b * c > 0


class Pieces(unittest.TestCase):
    def check(self, road):
        try:
            expected = model_pieces(road)
        except Wide as wide:
            with self.assertRaises(TooWide) as caught:
                pieces(road)
            self.assertEqual(vars(caught.exception), {"stage": wide.stage, "tag": "TooWide"})
            return ["wide"]
        result = pieces(road)
        self.check_kinds(result)
        self.assertEqual(fractions_of(result), expected)
        return {min(len(corners), 4) for row, corners in result} or {"none"}

    def check_kinds(self, result):
        self.assertIs(type(result), list)
        for piece in result:
            self.assertIs(type(piece), tuple)
            row, corners = piece
            self.assertEqual([type(row), type(corners)], [tuple, list])
            self.assertEqual({type(number) for number in row}, {int})
            for corner in corners:
                self.assertIs(type(corner), tuple)
                self.assertTrue(is_plain_fraction(corner[0]) and is_plain_fraction(corner[1]), corner)

    def test_many(self):
        rng = source("pieces")
        seen = []
        for tight in (0.0, 0.3, 0.7):
            for road in calm_roads(rng, 105, tight):
                seen += self.check(road)
        for k in range(30):
            seen += self.check(some_road(rng, k % 3 + 3, 1))
        # Points, segments, triangles and more, roads that nobody passes, and some that are too wide.
        for kind in (1, 2, 3, 4, "none", "wide"):
            self.assertGreater(seen.count(kind), 3, kind)

    def test_order_and_base_cell(self):
        rng = source("order of pieces")
        for road in narrow_roads(rng, 42):
            p, q, r = base_of(road)
            found = [corners for row, corners in fractions_of(pieces(road))]
            for corners in found:
                self.assertEqual(corners, sorted(set(corners)))
                self.assertTrue(0 <= corners[0][0] < p and 0 <= corners[0][1] < r)
            firsts = [corners[0] for corners in found]
            self.assertEqual(firsts, sorted(set(firsts)))

    def test_walkers_of_a_piece_are_within_its_windows(self):
        rng = source("walkers of pieces")
        for road in narrow_roads(rng, 42):
            for row, corners in pieces(road):
                for start, slowness in corners:
                    moments = [worth(start) + worth(slowness) * plan[0] for plan in plans_of(road)]
                    for plan, number, moment in zip(plans_of(road), row, moments, strict=True):
                        begin, end = window_of(plan, number)
                        self.assertTrue(begin <= moment <= end)

    def test_two_gates_of_six_spans(self):
        spans = [(Fraction(k), Fraction(1, k + 2)) for k in range(6)]
        road = Road([gate_of((place, Fraction(6), spans)) for place in (Fraction(-1, 2), Fraction(3))])
        self.assertEqual(fractions_of(pieces(road)), model_pieces(road))
        self.assertEqual(len(pieces(road)), 36)

    def test_hundreds_of_pieces(self):
        road = crowded_road()
        found = model_pieces(road)
        self.assertGreater(len(found), 400)
        self.assertEqual(fractions_of(pieces(road)), found)
        self.assertEqual(worth(share(road)), sum([area_of(corners) for row, corners in found]))
        for index in (0, 200, len(found) - 1):
            self.assertEqual(piece_at(road, pair_of(found[index][1][-1])), (index, 0, 0))

    def test_windows_with_equal_ends(self):
        # Both gates are open at integers only, so the only walker of each piece is one point.
        road = Road([((0, 1), (1, 1), (((0, 1), (1, 1)),)), ((1, 1), (1, 1), (((0, 1), (1, 1)),))])
        self.assertEqual(pieces(road), [((-1, -1), [((0, 1), (0, 1))])])
        segment = Road([((0, 1), (1, 1), (((0, 1), (1, 1)),)), ((1, 1), (1, 1), (((0, 1), (1, 2)),))])
        self.assertEqual(pieces(segment), [((-1, 0), [((0, 1), (1, 2)), ((0, 1), (1, 1))])])

    def test_gates_without_a_span_do_not_count(self):
        road = calm_road(source("idle among pieces"), 3)
        more = road.put(((1, 7), (5, 1), ())).put(((-10 ** 11, 3), (5, 1), []))
        self.assertEqual(pieces(more), pieces(road))
        self.assertEqual(share(more), share(road))

    def test_large_numbers(self):
        spans = [(Fraction(1, 10 ** 11), Fraction(1, 9))]
        plans = [(Fraction(999999999989, 7), Fraction(123456789012, 999999999877), spans)]
        spans = [(Fraction(1, 3), Fraction(1)), (Fraction(2), Fraction(2))]
        plans.append((Fraction(-1, 999999999988), Fraction(5), spans))
        road = Road([gate_of(plan) for plan in plans])
        self.assertEqual(fractions_of(pieces(road)), model_pieces(road))

    def test_new_lists_each_time(self):
        road = two_plain()
        first = pieces(road)
        kept = copy.deepcopy(first)
        first[0][1].clear()
        first.clear()
        self.assertEqual(pieces(road), kept)
        self.assertEqual(pieces(road=road), kept)
        passage(road, (0, 1))[1].clear()
        self.assertEqual(len(passage(road, (0, 1))[1]), 1)


class PieceAt(unittest.TestCase):
    def check(self, road, found, walker):
        """Check the copy for a walker, a pair of Fractions; tell whether the walker passes."""
        p, q, r = base_of(road)
        passes = not any([is_shut(plan, walker[0] + walker[1] * plan[0]) for plan in plans_of(road)])
        result = piece_at(road, pair_of(walker))
        if not passes:
            self.assertIsNone(result)
            return False
        self.assertEqual([type(result), *map(type, result)], [tuple, int, int, int])
        index, along, across = result
        self.assertIn(index, range(len(found)))
        moved = (walker[0] - along * p - across * q, walker[1] - across * r)
        self.assertTrue(is_within(found[index][1], moved), (walker, result))
        return True

    def test_corners_edges_and_within(self):
        rng = source("walkers at corners")
        for road in narrow_roads(rng, 35, 0.2):
            p, q, r = base_of(road)
            found = fractions_of(pieces(road))
            for row, corners in rng.sample(found, min(2, len(found))):
                middle = tuple([sum(values) / len(corners) for values in zip(*corners)])
                points = [corners[0], corners[-1], middle]
                points += [((a + x) / 2, (b + y) / 2) for (a, b), (x, y) in zip(corners, corners[1:])]
                for point in points[:5]:
                    along, across = rng.choice([(0, 0), (1, 0), (0, -1), (rng.randint(-10 ** 79, 10 ** 79), 3)])
                    walker = (point[0] + along * p + across * q, point[1] + across * r)
                    self.assertTrue(self.check(road, found, walker))
                    result = piece_at(road, pair_of(walker))
                    self.assertEqual(result, (found.index((row, corners)), along, across))

    def test_arbitrary_walkers(self):
        rng = source("arbitrary walkers")
        passed = 0
        for road in narrow_roads(rng, 35):
            found = fractions_of(pieces(road))
            for far in (False, False, False, False, True, True):
                passed += self.check(road, found, some_walker(rng, far))
            self.check(road, found, (some_walker(rng)[0], Fraction(0)))
            self.check(road, found, (some_walker(rng)[0], Fraction(-3, 2)))
        self.assertGreater(passed, 3)

    def test_a_little_beside(self):
        road = two_plain()
        little = Fraction(1, 10 ** 40)
        found = fractions_of(pieces(road))
        for start, slowness in ((0, 1), (0, 0), (1, 0), (1, -1)):
            self.assertEqual(piece_at(road, pair_of((Fraction(start), Fraction(slowness)))), (0, 0, 0))
            for x, y in ((little, 0), (-little, 0), (0, little), (0, -little), (little, -little), (-little, little)):
                self.check(road, found, (start + x, slowness + y))
        self.assertIsNone(piece_at(road, pair_of((-little, Fraction(1)))))
        self.assertIsNone(piece_at(road, pair_of((1 + little, Fraction(0)))))

    def test_by_keyword(self):
        self.assertEqual(piece_at(walker=((4, 1), (1, 1)), road=two_plain()), (0, 2, 0))


class Share(unittest.TestCase):
    def test_many(self):
        rng = source("shares")
        for road in narrow_roads(rng, 70, 0.1):
            p, q, r = base_of(road)
            result = share(road)
            self.assertTrue(is_plain_fraction(result))
            self.assertEqual(worth(result), sum([area_of(corners) for row, corners in model_pieces(road)]) / (p * r))

    def test_two_gates(self):
        # With two gates only, the share is the product of the parts of the periods that are open.
        rng = source("shares of two gates")
        for _ in range(30):
            road = calm_road(rng, 2, 2)
            parts = [1 - sum([length for begin, length in spans]) / period for place, period, spans in plans_of(road)]
            self.assertEqual(worth(share(road)), parts[0] * parts[1])

    def test_nobody_and_segments(self):
        nobody = Road([((k, 1), (1, 1), (((k % 2, 4), (1, 1)),)) for k in range(3)])
        self.assertEqual([pieces(nobody), share(nobody)], [[], (0, 1)])
        segment = Road([((0, 1), (1, 1), (((0, 1), (1, 1)),)), ((1, 1), (1, 1), (((0, 1), (1, 2)),))])
        self.assertEqual(share(road=segment), (0, 1))


class Passage(unittest.TestCase):
    def check(self, road, found, place):
        p, q, r = base_of(road)
        result = passage(road, pair(place))
        self.assertIs(type(result), tuple)
        fold, extents = result
        self.assertTrue(is_plain_fraction(fold))
        first, second = p / worth(fold), (q + r * place) / worth(fold)
        self.assertGreater(worth(fold), 0)
        self.assertEqual((first.denominator, second.denominator), (1, 1))
        self.assertEqual(math.gcd(int(first), int(second)), 1)
        self.assertIs(type(extents), list)
        expected = []
        for row, corners in found:
            moments = [start + slowness * place for start, slowness in corners]
            expected.append((pair(min(moments)), pair(max(moments))))
        self.assertEqual(extents, expected)

    def test_many(self):
        rng = source("passages")
        for road in narrow_roads(rng, 49, 0.1):
            p, q, r = base_of(road)
            found = model_pieces(road)
            # The second step does not change the moment at the last of these places.
            for place in (worth(rng.choice(road.places())), mixed(rng), Fraction(100), -q / r):
                self.check(road, found, place)

    def test_places_of_twelve_digits(self):
        road = calm_road(source("far passages"), 3)
        for place in (Fraction(999999999999), Fraction(-999999999989, 999999999988), Fraction(1, 999999999999)):
            self.check(road, model_pieces(road), place)

    def test_by_keyword(self):
        self.assertEqual(passage(place=(1, 2), road=two_plain()), ((1, 1), [((0, 1), (1, 1))]))


class Errors(unittest.TestCase):
    def check(self, road, error, **fields):
        for call in FUNCTIONS:
            with self.assertRaises(error) as caught:
                call(road)
            self.assertEqual(vars(caught.exception), {**fields, "tag": error.__name__})
            self.assertIsInstance(caught.exception, PaceError)

    def test_not_crossed(self):
        idle = [((k, 1), (2, 1), ()) for k in range(1, 8)]
        self.check(Road([]), NotCrossed, quantity=0)
        self.check(Road(idle), NotCrossed, quantity=0)
        self.check(Road([plain(0), *idle]), NotCrossed, quantity=1)

    def test_too_wide_at_stage_2(self):
        self.check(wide_pair_road(3, 1, 167), TooWide, stage=2)
        self.check(wide_pair_road(1, 3, 167), TooWide, stage=2)
        for first, second, period in ((5, 5, 20), (4, 5, 25), (1, 2, 250), (2, 1, 250), (6, 6, 13)):
            pieces(wide_pair_road(first, second, period))
        self.check(wide_pair_road(6, 6, 14), TooWide, stage=2)
        spans = (((0, 1), (1, 1)),)
        periods = (999999999989, 999999999961, 999999999937, 2, 3, 5, 7, 11)
        wide = Road([((k, 1), (period, 1), spans) for k, period in enumerate(periods)])
        self.check(wide, TooWide, stage=2)

    def test_too_wide_at_a_later_stage(self):
        for stage in range(3, 9):
            self.assertEqual(len(pieces(fine_road(stage, 500))), 500)
            self.check(fine_road(stage, 501), TooWide, stage=stage)

    def test_rows_by_the_millions(self):
        for stage in range(3, 9):
            for quantity in (10 ** 6, 10 ** 9, 10 ** 11):
                self.check(fine_road(stage, quantity, period=10 ** 12), TooWide, stage=stage)

    def test_the_least_stage_counts(self):
        # The last gate lets only one of the many rows pass, or none.
        road = fine_road(4, 10 ** 9, period=10 ** 12)
        for begin in (0, 1):
            self.check(road.put(((4, 1), (10 ** 12, 1), (((begin, 2), (10 ** 12, 1)),))), TooWide, stage=4)

    def test_a_stage_that_nobody_passes_is_not_wide(self):
        # Nobody gets as far as the gate at 3, which alone would leave rows by the millions.
        half = 10 ** 11
        plans = [(0, 10 ** 12, [(1, 10 ** 12 - 1)]), (1, 10 ** 12, [(1, 10 ** 12 - 1)])]
        plans += [(2, 10 ** 12, [(half, 10 ** 12)]), (3, 1, [(0, 1)])]
        nobody = Road([gate_of(plan) for plan in plans])
        self.assertEqual(pieces(nobody), [])
        self.assertIsNone(piece_at(nobody, WALKER))

    def test_too_wide_also_for_walkers_who_do_not_pass(self):
        road = fine_road(3, 501)
        for walker in (((0, 1), (0, 1)), ((1, 2), (0, 1))):
            with self.assertRaises(TooWide):
                piece_at(road, walker)

    def test_arguments_are_not_modified(self):
        road = calm_road(source("unmodified"), 4, 1)
        before = road.gates()
        for call in FUNCTIONS:
            first = call(road)
            self.assertEqual(call(road), first)
            self.assertEqual(call(Road(before)), first)
        self.assertEqual(road.gates(), before)


class Plans(unittest.TestCase):
    def test_the_model_takes_all_barring_gates(self):
        road = calm_road(source("plans"), 3, 2)
        self.assertEqual(plans_of(road), [plan_of(gate) for gate in road.barring()])
