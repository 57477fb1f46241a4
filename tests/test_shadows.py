"""Shadows, tightest roads, exceptions, and gates that are not needed."""

import copy
import unittest
from fractions import Fraction

from evenpace.errors import NotCrossed, TooWide
from evenpace.gates import normal_gate
from evenpace.pieces import pieces, share
from evenpace.roads import Road
from evenpace.shadows import exception, is_inside, is_tight, needless, shadow, tightest
from tests.gate_samples import gate_of, is_normal, is_shut, large_road, plain, plan_of, some_gates, some_road
from tests.piece_model import (
    Wide, base_of, calm_road, clipped_rows, crowded_road, fine_road, fractions_of, narrow_roads, plans_of, two_plain,
    wide_pair_road)
from tests.samples import pair, small, source, worth

NOBODY = Road([((k, 1), (1, 1), (((k % 2, 4), (1, 1)),)) for k in range(3)])


def greatest_divisor(one, other):
    """The greatest Fraction of which both are integer multiples, by Euclid."""
    one, other = abs(one), abs(other)
    while other:
        one, other = other, one % other
    return one


def extents_of(road, place):
    """The fold at a place and the moments of the pieces there, as Fractions."""
    p, q, r = base_of(road)
    found = []
    for row, corners in fractions_of(pieces(road)):
        moments = [start + slowness * place for start, slowness in corners]
        found.append((min(moments), max(moments)))
    return greatest_divisor(p, q + r * place), found


def is_reached(fold, extents, moment):
    """Whether some copy of an extent has a moment."""
    return any([(moment - early) % fold <= late - early for early, late in extents])


def ways_of(plan, fold, extents):
    """In how many ways the copies of extents stand against a gate."""
    return (fold / plan[1]).denominator * len(extents)


def is_kept_open(plan, fold, extents):
    """Whether a gate is open at all moments of extents that are repeated with a fold."""
    place, period, spans = plan
    if not spans:
        return True
    for early, late in extents:
        for k in range((fold / period).denominator):
            begin, end = early + k * fold, late + k * fold
            if is_shut(plan, begin) or left_open(plan, begin) < end - begin:
                return False
    return True


def left_open(plan, moment):
    """How long a gate stays open from a moment on at which it is open."""
    return min([(begin - moment) % plan[1] for begin, length in plan[2]])


class Shadows(unittest.TestCase):
    def check(self, road, place):
        result = shadow(road, pair(place))
        fold, extents = extents_of(road, place)
        if not extents:
            self.assertIsNone(result)
            return 0
        self.assertEqual([type(result), type(result[2])], [tuple, tuple])
        self.assertEqual(result[0], pair(place))
        plan = plan_of(result)
        place, period, spans = plan
        self.assertTrue(is_any_normal(plan), plan)
        # The extents and the shadow change only at these moments; between two of them, one moment tells all.
        moments = {early % fold for early, late in extents} | {late % fold for early, late in extents}
        moments |= {(begin + k * period) % fold for begin, length in spans for k in range(int(fold / period))}
        moments = sorted(moments)
        moments += [(one + two) / 2 for one, two in zip(moments, moments[1:] + [moments[0] + fold])]
        for moment in moments:
            self.assertIs(is_shut(plan, moment), not is_reached(fold, extents, moment), (plan, moment))
        return len(spans)

    def test_many(self):
        rng = source("shadows")
        spans = []
        for tight in (0.0, 0.5):
            for road in narrow_roads(rng, 56, tight):
                for place in (worth(rng.choice(road.places())), small(rng), Fraction(rng.choice([-50, 50]))):
                    spans.append(self.check(road, place))
        self.assertGreater(len([many for many in spans if many > 0]), 50)
        self.assertGreater(len([many for many in spans if many == 0]), 20)
        self.assertGreater(max(spans), 6)

    def test_more_than_six_spans(self):
        # At the place of the first gate the walkers are at integers from 0 to 9, and the gate has the period 11.
        plans = [(0, 11, [(9, 2)]), (1, 1, [(0, 1)]), (2, 1, [(0, 1)])]
        road = Road([gate_of(plan) for plan in plans])
        result = shadow(road, (0, 1))
        self.assertEqual(result[:2], ((0, 1), (11, 1)))
        self.assertEqual(result[2], tuple([((k, 1), (1, 1)) for k in range(9)] + [((9, 1), (2, 1))]))
        self.assertEqual(tightest(road)[0], result)
        self.assertIs(is_tight(road), False)

    def test_far_places(self):
        rng = source("far shadows")
        for road in narrow_roads(rng, 14):
            for place in (Fraction(999999999989), Fraction(-1, 999999999999), Fraction(999999999999, 999999999998)):
                self.check(road, place)

    def test_hundreds_of_pieces(self):
        road = crowded_road()
        for place in (Fraction(3), Fraction(1, 2), Fraction(-999999999989)):
            self.check(road, place)
        self.assertEqual(tightest(road), [shadow(road, place) for place in road.places()])
        self.assertIs(is_inside(road, road), True)
        self.assertEqual(needless(road), [])

    def test_one_moment_in_a_period(self):
        # Only the moments 0, 1, 2 .. are open, so the span is as long as the period.
        road = Road([((k, 1), (1, 1), (((0, 1), (1, 1)),)) for k in range(3)])
        self.assertEqual(shadow(road, (5, 1)), ((5, 1), (1, 1), (((0, 1), (1, 1)),)))
        self.assertEqual(shadow(road, (1, 3)), ((1, 3), (1, 3), (((0, 1), (1, 3)),)))

    def test_span_across_the_end_of_the_period(self):
        road = two_plain().later((1, 2))
        self.assertEqual(shadow(road, (0, 1)), ((0, 1), (2, 1), (((3, 2), (1, 1)),)))

    def test_nobody(self):
        for place in ((0, 1), (1, 1), (7, 3)):
            self.assertIsNone(shadow(NOBODY, place))

    def test_by_keyword(self):
        self.assertEqual(shadow(place=(1, 2), road=two_plain()), ((1, 2), (1, 1), ()))


def is_any_normal(plan):
    """Whether a plan of any number of spans is in the normal form of [5]."""
    place, period, spans = plan
    if len(spans) <= 6:
        return is_normal(plan)
    ends = [begin + length for begin, length in spans]
    ordered = all([end <= begin for end, (begin, length) in zip(ends, spans[1:] + [(spans[0][0] + period, 1)])])
    inside = all([0 <= begin < period and length > 0 for begin, length in spans])
    parts = [period / k for k in range(2, len(spans) + 1)]
    least = all([sorted([((begin + part) % period, length) for begin, length in spans]) != spans for part in parts])
    return ordered and inside and least


class Tightest(unittest.TestCase):
    def test_shadows_at_the_gates(self):
        rng = source("tightest roads")
        tight = 0
        for road in narrow_roads(rng, 84, 0.2):
            result = tightest(road)
            if not pieces(road):
                self.assertIsNone(result)
                self.assertIs(is_tight(road), False)
                continue
            self.assertIs(type(result), list)
            self.assertEqual(result, [shadow(road, place) for place in road.places()])
            self.assertIs(is_tight(road), result == road.gates())
            tight += result == road.gates()
        self.assertTrue(0 < tight < 84, tight)

    def test_same_walkers_pass(self):
        rng = source("tightest and the same walkers")
        seen = 0
        for road in narrow_roads(rng, 56):
            found = tightest(road)
            if found is None or max([len(gate[2]) for gate in found]) > 6:
                continue
            other = Road(found)
            seen += 1
            self.assertTrue(is_inside(road, other) and is_inside(other, road))
            self.assertEqual(share(other), share(road))
            # The tightest road of a tightest road is the same one.
            self.assertEqual(tightest(other), found)
            self.assertIs(is_tight(other), True)
        self.assertGreater(seen, 20)

    def test_looser_roads_have_the_same_tightest_road(self):
        rng = source("loosened")
        changed = 0
        for road in narrow_roads(rng, 42):
            found = tightest(road)
            if found is None or max([len(gate[2]) for gate in found]) > 6 or len(road.barring()) < 3:
                continue
            other = Road(found)
            self.assertEqual(tightest(other), tightest(road))
            changed += other != road
        self.assertGreater(changed, 5)

    def test_gates_without_a_span_may_get_one(self):
        points = [((k, 1), (1, 1), (((0, 1), (1, 1)),)) for k in (0, 2)]
        road = Road([*points, ((1, 1), (1, 1), ())])
        self.assertEqual(tightest(road), [points[0], ((1, 1), (1, 2), (((0, 1), (1, 2)),)), points[1]])
        self.assertIs(is_tight(road), False)

    def test_new_lists(self):
        road = two_plain()
        tightest(road).clear()
        self.assertEqual(len(tightest(road=road)), 2)
        self.assertIs(is_tight(road=road), True)


class Exceptions(unittest.TestCase):
    def check(self, road, other):
        found = [extents_of(road, worth(place)) for place in other.places()]
        if max([ways_of(plan_of(gate), *told) for gate, told in zip(other.gates(), found)], default=0) > 5000:
            return False
        inside = all([is_kept_open(plan_of(gate), *told) for gate, told in zip(other.gates(), found)])
        result = exception(road, other)
        self.assertIs(is_inside(road, other), inside)
        if inside:
            self.assertIsNone(result)
        else:
            self.assertEqual([type(result), *map(type, result)], [tuple] * 3)
            self.assertTrue(road.passes(result), (str(road), str(other), result))
            self.assertFalse(other.passes(result), (str(road), str(other), result))
            self.assertEqual(exception(road, other), result)
        return inside

    def test_many(self):
        rng = source("exceptions")
        inside = 0
        for tight in (0.0, 0.5):
            for road in narrow_roads(rng, 70, tight):
                others = [calm_road(rng, rng.randint(1, 3), rng.randint(0, 2)), some_road(rng, 1)]
                others += [loosened(rng, road), Road(road.gates()[1:])]
                inside += sum([self.check(road, other) for other in others])
        self.assertGreater(inside, 100)

    def test_other_roads_of_all_kinds(self):
        road = two_plain()
        idle = Road([((7, 1), (1, 1), ())])
        for other in (Road([]), idle, road, Road([plain(1)]), Road([plain(0)])):
            self.assertTrue(self.check(road, other))
        rng = source("kinds of other roads")
        self.assertFalse(self.check(road, Road([plain(2)])))
        self.assertFalse(self.check(road, road.later((1, 10 ** 12))))
        for other in (large_road(rng, 3), fine_road(3, 10 ** 9, 10 ** 12), Road(some_gates(rng, 8))):
            self.assertTrue(self.check_only(road, other))
        self.assertTrue(is_inside(other=Road([]), road=road))
        self.assertIsNone(exception(other=Road([]), road=road))

    def test_a_single_walker_too_many(self):
        # The windows of the first road are points; the other road's gate is shut at one of their many moments.
        road = Road([((k, 1), (1, 1), (((0, 1), (1, 1)),)) for k in range(2)])
        for place in ((0, 1), (1, 1), (2, 1), (-1, 1), (-7, 1), (999999999999, 1)):
            for period, moment in ((5, 1), (5, 3), (997, 0), (10 ** 12 - 11, 10 ** 11)):
                begin = pair((moment - Fraction(1, 2)) % period)
                other = Road([(place, (period, 1), ((begin, (1, 1)),))])
                start, slowness = exception(road, other)
                self.assertTrue(self.check_only(road, other))
                self.assertEqual((worth(start) + worth(slowness) * worth(place)) % period, moment)
                self.assertIs(is_inside(road, other), False)

    def check_only(self, road, other):
        """Whether the exception is one; for roads with too many ways to try all."""
        walker = exception(road, other)
        return road.passes(walker) and not other.passes(walker)

    def test_touching_is_not_an_exception(self):
        # The span of the other gate lies exactly between two moments of the walkers.
        road = Road([((k, 1), (1, 1), (((0, 1), (1, 1)),)) for k in range(2)])
        for other in (Road([((0, 1), (5, 1), (((3, 1), (1, 1)),))]), Road([((3, 1), (1, 1), (((0, 1), (1, 1)),))])):
            self.assertTrue(self.check(road, other))
        self.assertFalse(self.check(road, Road([((0, 1), (5, 1), (((3, 1), (10 ** 11 + 1, 10 ** 11)),))])))

    def test_nobody_is_inside_everything(self):
        rng = source("nobody inside")
        for _ in range(10):
            self.assertTrue(is_inside(NOBODY, some_road(rng, 3)))
            self.assertIsNone(exception(NOBODY, large_road(rng, 2)))
        self.assertIs(is_inside(two_plain(), NOBODY), False)


def loosened(rng, road):
    """A road with some gates of another one, each with one span made shorter or left out."""
    found = []
    for place, period, spans in plans_of(road):
        at = rng.randrange(len(spans))
        begin, length = spans[at]
        spans[at] = (begin, length * Fraction(rng.choice([1, 2, 4]), 4))
        found.append(normal_gate(gate_of((place, period, spans if rng.random() < 0.7 else spans[1:]))))
    return Road(rng.sample(found, rng.randint(1, len(found))))


class Needless(unittest.TestCase):
    def expected(self, road):
        """The places, or the stage of the first road that is too wide."""
        bars = road.barring()
        shorter = [road.without(gate[0]) for gate in bars] if len(bars) > 2 else []
        for other in [road, *shorter]:
            try:
                clipped_rows(other)
            except Wide as wide:
                return wide.stage
        needed = [gate[0] for gate in bars] if len(bars) == 2 else []
        for gate, other in zip(bars, shorter):
            if not is_kept_open(plan_of(gate), *extents_of(other, worth(gate[0]))):
                needed.append(gate[0])
        return [place for place in road.places() if place not in needed]

    def check(self, road):
        expected = self.expected(road)
        if isinstance(expected, int):
            with self.assertRaises(TooWide) as caught:
                needless(road)
            self.assertEqual(vars(caught.exception), {"stage": expected, "tag": "TooWide"})
            return "wide"
        result = needless(road)
        self.assertIs(type(result), list)
        self.assertEqual(result, expected)
        return len(set(result) & {gate[0] for gate in road.barring()})

    def test_many(self):
        rng = source("needless")
        seen = []
        for road in narrow_roads(rng, 49, 0.2):
            seen.append(self.check(road))
        for road in narrow_roads(rng, 21, 0.2):
            found = tightest(road)
            # A gate that is a shadow of the road without it is needless.
            if len(road) < 8 and found is not None:
                gate = shadow(road, pair(Fraction(1, 2)))
                if len(gate[2]) <= 6:
                    seen.append(self.check(road.put(gate)))
        self.assertGreater(seen.count(0), 5)
        self.assertGreater(len([many for many in seen if many not in (0, "wide")]), 5)

    def test_two_barring_gates(self):
        road = Road([plain(0), plain(1), ((1, 2), (1, 1), ()), ((-5, 1), (1, 1), ())])
        self.assertEqual(needless(road), [(-5, 1), (1, 2)])
        self.assertEqual(needless(road=two_plain()), [])

    def test_order_of_the_places(self):
        points = [((k, 1), (1, 1), (((0, 1), (1, 1)),)) for k in (0, 1, 2, -3, 5)]
        idle = [((1, 2), (1, 1), ()), ((-9, 1), (1, 1), ()), ((9, 1), (1, 1), ())]
        result = needless(Road(points[:3] + idle))
        self.assertEqual(result, [(-9, 1), (0, 1), (1, 2), (2, 1), (9, 1)])
        self.assertEqual(needless(Road(points)), [(-3, 1), (0, 1), (1, 1), (2, 1), (5, 1)])

    def test_nobody_passes(self):
        self.assertEqual(needless(NOBODY), [])
        more = NOBODY.put(((3, 1), (1, 1), (((0, 1), (1, 1)),)))
        self.check(more)

    def test_too_wide_without_a_gate(self):
        # With the gate at 2 nobody gets any further; without it the gates behind it leave rows by the millions.
        million = 10 ** 12
        plans = [(0, million, [(1, million - 1)]), (1, million, [(1, million - 1)])]
        plans.append((2, million, [(10 ** 11, million)]))
        nobody = Road([gate_of(plan) for plan in plans])
        self.assertEqual(needless(nobody), self.expected(nobody))
        fine = nobody.put(((3, 1), (1, 10 ** 6), (((0, 1), (1, 10 ** 6)),)))
        self.assertEqual(pieces(fine), [])
        self.assertEqual(self.check(fine), "wide")
        for stage in (3, 4, 5):
            self.assertEqual(self.check(fine_road(stage, 501)), "wide")

    def test_order_of_the_roads(self):
        # Without the second one of these gates the road is too wide at one stage, without the third one at another.
        half, full = [(Fraction(1, 2), Fraction(1, 2))], [(0, 1)]
        for order, stages in (([full, full, half, full], [4, 3]), ([half, full, full, full], [3, 4])):
            plans = [(0, 1000, [(67, 700)])] + [(k, 1, spans) for k, spans in enumerate(order, start=1)]
            road = Road([gate_of(plan) for plan in plans])
            found = [stage for stage in map(self.stage_without, [road] * 5, road.places()) if stage]
            self.assertEqual(found, stages)
            with self.assertRaises(TooWide) as caught:
                needless(road)
            self.assertEqual(caught.exception.stage, stages[0])

    def stage_without(self, road, place):
        try:
            clipped_rows(road.without(place))
        except Wide as wide:
            return wide.stage
        return None


class Errors(unittest.TestCase):
    def check(self, road, error, **fields):
        other = two_plain()
        calls = (lambda: shadow(road, (0, 1)), lambda: tightest(road), lambda: is_tight(road),
                 lambda: exception(road, other), lambda: is_inside(road, Road([])), lambda: needless(road))
        for call in calls:
            with self.assertRaises(error) as caught:
                call()
            self.assertEqual(vars(caught.exception), {**fields, "tag": error.__name__})

    def test_not_crossed(self):
        self.check(Road([]), NotCrossed, quantity=0)
        self.check(Road([plain(0), ((1, 1), (1, 1), ())]), NotCrossed, quantity=1)

    def test_too_wide(self):
        self.check(wide_pair_road(3, 1, 167), TooWide, stage=2)
        self.check(fine_road(3, 501), TooWide, stage=3)
        self.check(fine_road(7, 10 ** 9, period=10 ** 12), TooWide, stage=7)

    def test_arguments_are_not_modified(self):
        rng = source("unmodified shadows")
        road, other = calm_road(rng, 3, 1), some_road(rng, 2)
        before = copy.deepcopy((road.gates(), other.gates()))
        calls = (lambda: shadow(road, (1, 3)), lambda: tightest(road), lambda: is_tight(road),
                 lambda: exception(road, other), lambda: is_inside(road, other), lambda: needless(road))
        for call in calls:
            self.assertEqual(call(), call())
        self.assertEqual((road.gates(), other.gates()), before)
