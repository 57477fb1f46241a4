"""Starts with a given slowness, their numbers, and copies of pieces in a box."""

import math
import unittest
from fractions import Fraction

from evenpace import starts
from evenpace.errors import InvalidCount, NotCrossed, PaceError, TooMany, TooWide
from evenpace.pieces import pieces
from evenpace.roads import Road
from evenpace.starts import count_pieces, count_starts, first_start, open_starts
from tests.gate_samples import gate_of, is_shut, plain
from tests.piece_model import (
    base_of, calm_road, fine_road, fractions_of, narrow_roads, plans_of, two_plain, wide_pair_road, window_of)
from tests.samples import is_plain_fraction, mixed, pair, small, source, worth

BOX = ((0, 1), (1, 1))
FAR = 10 ** 99


def passes(plans, start, slowness):
    """Whether a walker passes gates, in the words of [4] and [7]."""
    return not any([is_shut(plan, start + slowness * plan[0]) for plan in plans])


def model_intervals(road, slowness):
    """The intervals of open_starts, found from the begins of windows within one period p; None if there are many."""
    p, plans = base_of(road)[0], plans_of(road)
    if sum([p / plan[1] * len(plan[2]) for plan in plans]) > 1200:
        return None
    found = set()
    for plan in plans:
        for number in range(int(p / plan[1]) * len(plan[2])):
            begin = (window_of(plan, number)[0] - slowness * plan[0]) % p
            if passes(plans, begin, slowness):
                found.add((begin, begin + min([left_open(other, begin + slowness * other[0]) for other in plans])))
    return sorted(found)


def left_open(plan, moment):
    """How long a gate stays open from a moment on at which it is open."""
    place, period, spans = plan
    return min([(begin - moment) % period for begin, length in spans])


def some_slowness(rng):
    """A slowness: zero, negative, small or of many digits."""
    return rng.choice([
        Fraction(0), Fraction(rng.randint(-3, 3)), small(rng), mixed(rng), -abs(small(rng)),
        Fraction(rng.randint(-10 ** 99, 10 ** 99), rng.randint(1, 6))])


def windowed(road, slowness):
    """The result of open_starts as Fractions."""
    p, intervals = open_starts(road, pair(slowness))
    return worth(p), [(worth(begin), worth(end)) for begin, end in intervals]


class OpenStarts(unittest.TestCase):
    def check(self, road, slowness):
        expected = model_intervals(road, slowness)
        if expected is None:
            return []
        result = open_starts(road, pair(slowness))
        self.assertEqual((type(result), type(result[1])), (tuple, list))
        for interval in result[1]:
            self.assertIs(type(interval), tuple)
            self.assertTrue(is_plain_fraction(interval[0]) and is_plain_fraction(interval[1]))
        self.assertEqual(windowed(road, slowness), (base_of(road)[0], expected))
        return expected

    def test_many(self):
        rng = source("open starts")
        many = 0
        for tight in (0.0, 0.3):
            for road in narrow_roads(rng, 70, tight):
                many += sum([len(self.check(road, some_slowness(rng))) > 1 for _ in range(4)])
        self.assertGreater(many, 50)

    def test_at_the_slownesses_of_corners(self):
        # There a copy of a piece begins or ends, and its interval may be a point.
        rng = source("slownesses of corners")
        points = 0
        for road in narrow_roads(rng, 42, 0.2):
            r = base_of(road)[2]
            for row, corners in fractions_of(pieces(road))[:3]:
                for start, slowness in (corners[0], corners[-1]):
                    found = self.check(road, slowness + r * rng.randint(-10 ** 50, 10 ** 50))
                    points += sum([begin == end for begin, end in found])
        self.assertGreater(points, 20)

    def test_interval_across_the_end_of_p(self):
        road = two_plain().later((3, 2))
        self.assertEqual(open_starts(road, (0, 1)), ((2, 1), [((3, 2), (5, 2))]))
        self.assertEqual(open_starts(slowness=(-2, 1), road=two_plain()), ((2, 1), [((0, 1), (1, 1))]))

    def test_nobody(self):
        nobody = Road([((k, 1), (1, 1), (((k % 2, 4), (1, 1)),)) for k in range(3)])
        for slowness in ((0, 1), (1, 2), (-7, 3)):
            self.assertEqual(open_starts(nobody, slowness), ((1, 1), []))
        # Some slownesses only: all gates are open at integers only.
        points = Road([((k, 1), (1, 1), (((0, 1), (1, 1)),)) for k in range(3)])
        self.assertEqual(open_starts(points, (1, 2)), ((1, 1), []))
        self.assertEqual(open_starts(points, (-5, 1)), ((1, 1), [((0, 1), (0, 1))]))

    def test_new_lists(self):
        road = two_plain()
        open_starts(road, (1, 2))[1].clear()
        self.assertEqual(len(open_starts(road, (1, 2))[1]), 1)


def crowded_road(many):
    """A road with two gates and so many intervals of starts in p for each slowness but rare ones."""
    plans = [(Fraction(0), Fraction(many), [(Fraction(0), Fraction(many))])]
    plans += [(Fraction(1), Fraction(many + 1), [(Fraction(0), Fraction(1, 3))])]
    return Road([gate_of(plan) for plan in plans])


class TooManyIntervals(unittest.TestCase):
    def check(self, road, slowness, quantity):
        since = (10 ** 50, 3)
        for call in (lambda: open_starts(road, slowness), lambda: first_start(road, slowness, since=since),
                     lambda: count_starts(road, slowness, 10), lambda: count_starts(road, slowness, 0)):
            with self.assertRaises(TooMany) as caught:
                call()
            self.assertEqual(vars(caught.exception), {"quantity": quantity, "tag": "TooMany"})
            self.assertIsInstance(caught.exception, PaceError)

    def test_constant(self):
        self.assertEqual(starts.MAX_INTERVALS, 1000)

    def test_at_the_limit(self):
        # The first gate is open at the multiples of its period, of which the second one is shut at none.
        for many in (999, 1000, 1001, 1002):
            road = Road([
                gate_of((Fraction(0), Fraction(1), [(Fraction(0), Fraction(1))])),
                gate_of((Fraction(1), Fraction(many), [(Fraction(1, 3), Fraction(1, 3))]))])
            if many <= 1000:
                self.assertEqual(windowed(road, Fraction(0)), (many, [(k, k) for k in range(many)]))
                self.assertEqual(first_start(road, (0, 1), since=(7, 2)), (4, 1))
                self.assertEqual(count_starts(road, (0, 1), 10 ** 30), 10 ** 30)
            else:
                self.check(road, (0, 1), many)

    def test_huge_numbers(self):
        for one, two in ((999999999989, 999999999961), (10 ** 6, 10 ** 6 + 1), (10 ** 12 - 1, 1)):
            plans = [(Fraction(0), Fraction(one), [(Fraction(0), Fraction(1))])]
            plans += [(Fraction(1), Fraction(two), [(Fraction(0), Fraction(two))])]
            road = Road([gate_of(plan) for plan in plans])
            # The second gate is open at multiples of two only, and the first one is shut at none of these.
            self.check(road, (0, 1), one)

    def test_quantity_of_many(self):
        rng = source("quantities")
        for _ in range(12):
            many = rng.randint(1001, 1150)
            road = crowded_road(many)
            slowness = Fraction(rng.randint(-9, 9), 7)
            # One start for each turn of the first gate at which the second one is not shut.
            plans = plans_of(road)
            quantity = sum([passes(plans, Fraction(k * many), slowness) for k in range(many + 1)])
            if quantity > 1000:
                self.check(road, pair(slowness), quantity)


class FirstStart(unittest.TestCase):
    def model(self, road, slowness, since):
        p, intervals = windowed(road, slowness)
        found = []
        for begin, end in intervals:
            k = math.floor((since - begin) / p)
            moments = [(begin + n * p, end + n * p) for n in (k - 1, k, k + 1)]
            found += [max(early, since) for early, late in moments if late >= since]
        return min(found) if found else None

    def test_many(self):
        rng = source("first starts")
        passed = 0
        for road in narrow_roads(rng, 70, 0.1):
            plans = plans_of(road)
            slowness = some_slowness(rng)
            for since in (Fraction(0), small(rng), mixed(rng), Fraction(rng.randint(-FAR, FAR), 7)):
                result = first_start(road, pair(slowness), since=pair(since))
                expected = self.model(road, slowness, since)
                self.assertEqual(result, None if expected is None else pair(expected))
                if result is not None:
                    self.assertTrue(passes(plans, expected, slowness))
                    passed += 1
        self.assertGreater(passed, 50)

    def test_ends_of_intervals(self):
        road, little = two_plain(), Fraction(1, 10 ** 60)
        for turns in (0, 1, -1, 10 ** 90):
            half = Fraction(1, 2)
            for since, expected in ((0, 0), (half, half), (half + little, 2), (-little, 0)):
                result = first_start(road, (1, 2), since=pair(since + 2 * turns))
                self.assertEqual(result, pair(expected + 2 * turns))

    def test_since_is_zero_unless_told(self):
        road = two_plain().later((1, 2))
        self.assertEqual(first_start(road, (1, 2)), (1, 2))
        self.assertEqual(first_start(road, slowness=(1, 2)), first_start(road, (1, 2), since=(0, 1)))
        self.assertEqual(first_start(road, (1, 2), since=(-2, 1)), (-3, 2))
        with self.assertRaises(TypeError):
            first_start(road, (1, 2), (0, 1))

    def test_none(self):
        points = Road([((k, 1), (1, 1), (((0, 1), (1, 1)),)) for k in range(3)])
        self.assertIsNone(first_start(points, (1, 2)))
        self.assertEqual(first_start(points, (3, 1), since=(1, 2)), (1, 1))


class CountStarts(unittest.TestCase):
    def test_small_numbers(self):
        rng = source("small counts")
        many = 0
        for road in [road for road in narrow_roads(rng, 140) if len(road) < 6]:
            plans, slowness = plans_of(road), Fraction(rng.randint(-9, 9), rng.choice([1, 2]))
            passed = [passes(plans, Fraction(k), slowness) for k in range(40)]
            many += any(passed)
            for number in (0, 1, 2, rng.randint(3, 40), 40):
                result = count_starts(road, pair(slowness), number)
                self.assertEqual((type(result), result), (int, sum(passed[:number])))
        self.assertGreater(many, 20)

    def test_numbers_of_many_digits(self):
        # The numerator of p integers in a row have the same number of starts each time.
        rng = source("large counts")
        for road in narrow_roads(rng, 35, 0.1):
            p, plans, slowness = base_of(road)[0], plans_of(road), some_slowness(rng)
            period = p.numerator
            if period < 500:
                passed = [passes(plans, Fraction(k), slowness) for k in range(period)]
                rest = rng.randint(0, period - 1)
                turns = rng.randint(10 ** 90, 10 ** 95)
                result = count_starts(road, pair(slowness), turns * period + rest)
                self.assertEqual(result, turns * sum(passed) + sum(passed[:rest]))

    def test_negative_numbers_come_first(self):
        for road in (two_plain(), Road([]), Road([plain(0)]), fine_road(3, 501), wide_pair_road(6, 6, 14)):
            for number in (-1, -10 ** 99):
                with self.assertRaises(InvalidCount) as caught:
                    count_starts(road, (0, 1), number)
                self.assertEqual(vars(caught.exception), {"number": number, "tag": "InvalidCount"})

    def test_by_keyword(self):
        self.assertEqual(count_starts(number=10, slowness=(1, 2), road=two_plain()), 5)


class CountPieces(unittest.TestCase):
    def model(self, road, starts, slownesses):
        """The number of copies, one by one."""
        (low, high), (least, greatest) = starts, slownesses
        p, q, r = base_of(road)
        found = 0
        for row, corners in pieces(road):
            start, slowness = map(worth, corners[0])
            for across in range(math.floor((least - slowness) / r) - 1, math.ceil((greatest - slowness) / r) + 2):
                left = start + across * q
                for along in range(math.floor((low - left) / p) - 1, math.ceil((high - left) / p) + 2):
                    inside = low <= left + along * p < high
                    found += inside and least <= slowness + across * r < greatest
        return found

    def box(self, starts, slownesses):
        return tuple(map(pair, starts)), tuple(map(pair, slownesses))

    def test_small_boxes(self):
        rng = source("small boxes")
        many = 0
        for road in narrow_roads(rng, 42, 0.1):
            p, q, r = base_of(road)
            for _ in range(3):
                starts = sorted([p * rng.randint(-9, 9) / 3, p * rng.randint(-9, 9) / rng.randint(1, 4)])
                slownesses = sorted([r * rng.randint(-9, 9) / 3, r * rng.randint(-9, 9) / rng.randint(1, 4)])
                expected = self.model(road, starts, slownesses)
                many += expected > 0
                result = count_pieces(road, *self.box(starts, slownesses))
                self.assertEqual((type(result), result), (int, expected))
        self.assertGreater(many, 20)

    def test_edges_of_the_box(self):
        rng = source("edges of boxes")
        for road in narrow_roads(rng, 28):
            p, q, r = base_of(road)
            for row, corners in fractions_of(pieces(road))[:2]:
                (start, slowness), little = corners[0], Fraction(1, 10 ** 50)
                boxes = [((start, start + little), (slowness, slowness + little), 1)]
                boxes += [((start - little, start), (slowness, slowness + little), 0)]
                boxes += [((start, start + little), (slowness - little, slowness), 0)]
                for starts, slownesses, expected in boxes:
                    for along, across in ((0, 0), (10 ** 60, -10 ** 40)):
                        x, y = along * p + across * q, across * r
                        box = self.box([value + x for value in starts], [value + y for value in slownesses])
                        self.assertEqual(count_pieces(road, *box), expected)

    def test_boxes_of_many_digits(self):
        rng = source("large boxes")
        for road in narrow_roads(rng, 28):
            p, q, r = base_of(road)
            wide, high = rng.randint(1, 10 ** 45), rng.randint(1, 10 ** 45)
            x, y = mixed(rng) * 10 ** 30, mixed(rng) * 10 ** 30
            # Each cell, wherever it stands, has each piece once.
            box = self.box((x, x + wide * p), (y, y + high * r))
            self.assertEqual(count_pieces(road, *box), wide * high * len(pieces(road)))
            # Parts of a box have together what the box has.
            part = x + p * Fraction(rng.randint(0, 10 ** 20), 10 ** 19)
            row = y + r * Fraction(rng.randint(0, 10 ** 20), 10 ** 19)
            parts = [(starts, slownesses) for starts in ((x, part), (part, x + wide * p))
                     for slownesses in ((y, row), (row, y + high * r))]
            if x < part < x + wide * p and y < row < y + high * r:
                counts = [count_pieces(road, *self.box(*box)) for box in parts]
                self.assertEqual(sum(counts), wide * high * len(pieces(road)))

    def test_empty_and_turned_boxes(self):
        road = two_plain()
        full, empty, turned = ((0, 1), (4, 1)), ((1, 1), (1, 1)), ((4, 1), (0, 1))
        self.assertEqual(count_pieces(road, full, full), 4)
        for one in (empty, turned):
            for other in (full, empty, turned):
                self.assertEqual([count_pieces(road, one, other), count_pieces(road, other, one)], [0, 0])

    def test_lists_and_keywords(self):
        road = two_plain()
        self.assertEqual(count_pieces(slownesses=[(0, 1), (5, 1)], starts=[(0, 1), (4, 1)], road=road), 6)


class Errors(unittest.TestCase):
    def check(self, road, error, **fields):
        calls = (lambda: open_starts(road, (0, 1)), lambda: first_start(road, (0, 1)),
                 lambda: count_starts(road, (0, 1), 3), lambda: count_pieces(road, BOX, BOX),
                 lambda: count_pieces(road, BOX[::-1], BOX))
        for call in calls:
            with self.assertRaises(error) as caught:
                call()
            self.assertEqual(vars(caught.exception), {**fields, "tag": error.__name__})

    def test_not_crossed(self):
        self.check(Road([]), NotCrossed, quantity=0)
        self.check(Road([plain(0), ((1, 1), (1, 1), ())]), NotCrossed, quantity=1)

    def test_too_wide(self):
        self.check(wide_pair_road(3, 1, 167), TooWide, stage=2)
        self.check(fine_road(3, 501), TooWide, stage=3)
        self.check(fine_road(6, 10 ** 9, period=10 ** 12), TooWide, stage=6)

    def test_arguments_are_not_modified(self):
        road = calm_road(source("unmodified starts"), 3, 1)
        before = road.gates()
        box = [(0, 1), (5, 1)]
        calls = (lambda: open_starts(road, (1, 3)), lambda: first_start(road, (1, 3)),
                 lambda: count_starts(road, (1, 3), 50), lambda: count_pieces(road, box, box))
        for call in calls:
            self.assertEqual(call(), call())
        self.assertEqual((road.gates(), box), (before, [(0, 1), (5, 1)]))
