"""What DOC.md says of rows and pieces, over Python's own Fraction, by clipping polygons; and roads to try it on."""

import math
from fractions import Fraction

from evenpace.errors import TooWide
from evenpace.pieces import share
from evenpace.roads import Road
from evenpace.steps import steps, turns
from tests.gate_samples import gate_of, plain, plan_of, some_spans
from tests.samples import worth

LIMIT = 500


class Wide(Exception):
    """A stage of a road has too many rows."""

    def __init__(self, stage):
        super().__init__(stage)
        self.stage = stage


def plans_of(road):
    """The plans of the barring gates."""
    return [plan_of(gate) for gate in road.gates() if gate[2]]


def base_of(road):
    """The base steps as the three Fractions p, q, r."""
    (p, zero), (q, r) = steps(road)
    return worth(p), worth(q), worth(r)


def window_of(plan, number):
    """The window of [6] with a number."""
    place, period, spans = plan
    j, k = divmod(number, len(spans))
    end = spans[k + 1][0] if k + 1 < len(spans) else spans[0][0] + period
    return (sum(spans[k]) + j * period, end + j * period)


def cut(points, place, bound, sign):
    """The part of a convex shape whose moments at a place are not below (sign 1) or above (sign -1) a bound."""
    result = []
    for one, two in zip(points, points[1:] + points[:1]):
        here = sign * (one[0] + one[1] * place - bound)
        there = sign * (two[0] + two[1] * place - bound)
        if here >= 0:
            result.append(one)
        if here * there < 0:
            part = here / (here - there)
            result.append((one[0] + part * (two[0] - one[0]), one[1] + part * (two[1] - one[1])))
    return result


def strips_meet(one, first, two, second):
    """The walkers within two windows, as the corners of a parallelogram in order of going around."""
    (d, e), points = (one[0], two[0]), []
    for early, late in ((0, 0), (1, 0), (1, 1), (0, 1)):
        slowness = (second[late] - first[early]) / (e - d)
        points.append((first[early] - slowness * d, slowness))
    return points


def numbers_between(plan, low, high):
    """The numbers of the windows that have a moment from low to high, found one by one."""
    place, period, spans = plan
    number = math.floor((low - spans[0][0]) / period) * len(spans) - 2 * len(spans)
    while window_of(plan, number)[1] < low:
        number += 1
    while window_of(plan, number)[0] <= high:
        yield number
        number += 1


def clipped_rows(road):
    """All rows with their shapes; raises Wide as [11] says."""
    plans = plans_of(road)
    a, b, c = turns(road)
    firsts, seconds = range(a * len(plans[0][2])), range(c * len(plans[1][2]))
    if len(firsts) * len(seconds) > LIMIT:
        raise Wide(2)
    rows = [((one, two), strips_meet(plans[0], window_of(plans[0], one), plans[1], window_of(plans[1], two)))
            for two in seconds for one in firsts]
    for stage, plan in enumerate(plans[2:], start=3):
        longer = []
        for row, points in rows:
            moments = [start + slowness * plan[0] for start, slowness in points]
            for number in numbers_between(plan, min(moments), max(moments)):
                low, high = window_of(plan, number)
                longer.append(((*row, number), cut(cut(points, plan[0], low, 1), plan[0], high, -1)))
                if len(longer) > LIMIT:
                    raise Wide(stage)
        rows = longer
    return rows


def is_between(point, one, two):
    """Whether a point lies on the segment between two others."""
    (x, y), (a, b), (c, d) = point, one, two
    flat = (c - a) * (y - b) == (d - b) * (x - a)
    return flat and min(a, c) <= x <= max(a, c) and min(b, d) <= y <= max(b, d)


def corners_of(points):
    """The corners in ascending order: each point once, and none on the way between two others."""
    points = sorted(set(points))
    return [point for point in points
            if not any([is_between(point, one, two) for one in points for two in points if point not in (one, two)])]


def into_cell(road, point):
    """The step, as a pair of Fractions, that moves a point into the base cell."""
    p, q, r = base_of(road)
    across = -math.floor(point[1] / r)
    along = -math.floor((point[0] + across * q) / p)
    return (along * p + across * q, across * r)


def model_pieces(road):
    """The pieces of [10] as (row, corners) in Fractions; raises Wide."""
    found = []
    for row, points in clipped_rows(road):
        corners = corners_of(points)
        x, y = into_cell(road, corners[0])
        numbers = [number + (x + y * plan[0]) / plan[1] * len(plan[2]) for number, plan in zip(row, plans_of(road))]
        found.append((tuple(map(int, numbers)), [(start + x, slowness + y) for start, slowness in corners]))
    return sorted(found, key=lambda piece: piece[1][0])


def fractions_of(pieces):
    """Pieces of the package, with Fractions."""
    return [(row, [(worth(start), worth(slowness)) for start, slowness in corners]) for row, corners in pieces]


def calm_road(rng, barring, idle=0, tight=0.0):
    """A road with periods that fit well together, so that few rows are passed.

    The greater tight is, the shorter are the windows; some of them have two equal ends.
    """
    places = rng.sample(range(-5, 6), barring + idle)
    scale = rng.choice([Fraction(1), Fraction(1), Fraction(2, 3), Fraction(10 ** 6, 999983)])
    plans = []
    for place in places[:barring]:
        period = Fraction(rng.choice([1, 1, 2, 2, 3, 4]), rng.choice([1, 1, 2]))
        spans = some_spans(rng, period, rng.choice([1, 1, 1, 2, 2, 3]))
        if rng.random() < tight:
            # A span that leaves little or nothing of the period.
            begin = period * rng.randint(0, 7) / 8
            spans = [(begin, period * rng.choice([Fraction(1), Fraction(7, 8), Fraction(15, 16)]))]
        plans.append((place * scale, period, spans))
    plans += [(place * scale, Fraction(3), []) for place in places[barring:]]
    return Road([gate_of(plan) for plan in plans])


def calm_roads(rng, many, tight=0.0):
    """Roads of two to eight barring gates, with other gates among them; most of them are not too wide."""
    for k in range(many):
        barring = k % 7 + 2
        yield calm_road(rng, barring, rng.randint(0, min(2, 8 - barring)), tight)


def narrow_roads(rng, many, tight=0.0):
    """So many calm roads, without those that are too wide."""
    found = []
    while len(found) < many:
        found += [road for road in calm_roads(rng, many, tight) if not is_wide(road)]
    return found[:many]


def is_wide(road):
    """Whether a road is too wide."""
    try:
        share(road)
    except TooWide:
        return True
    return False


def two_plain():
    """The road of the document's examples."""
    return Road([plain(0), plain(1)])


def fine_road(stage, quantity, period=10 ** 6):
    """A road that has one row at each stage up to the given one, and there so many rows."""
    # The walkers are at place 1 at 0 and at place 0 from 0 to w, so at place j from -(j - 1) * w to 0.
    at = stage - 1
    width = Fraction(quantity - 1, at - 1)
    plans = [(Fraction(0), Fraction(period), [(width, period - width)]), (Fraction(1), Fraction(period), [(0, period)])]
    plans += [(Fraction(k), Fraction(period), [(Fraction(period, 2), Fraction(1))]) for k in range(2, at)]
    plans.append((Fraction(at), Fraction(1), [(0, 1)]))
    return Road([gate_of(plan) for plan in plans])


def wide_pair_road(first, second, period):
    """A road of three gates whose rows of two windows are first * second * period."""
    plans = [(Fraction(0), Fraction(1), some_notches(first)), (Fraction(1), Fraction(1), some_notches(second))]
    plans.append((Fraction(2), Fraction(period), [(Fraction(0), Fraction(period))]))
    return Road([gate_of(plan) for plan in plans])


def some_notches(many):
    """So many spans in a period of 1 that do not repeat earlier."""
    return [(Fraction(k, many), Fraction(1, 2 * many + 2 * k)) for k in range(many)]


def crowded_road():
    """A road of eight gates with hundreds of pieces, just not too wide."""
    plans = []
    for k in range(8):
        begins = sorted([(Fraction(k * k, 15) + shift) % 1 for shift in (Fraction(0), Fraction(3, 8), Fraction(5, 7))])
        plans.append((Fraction(k), Fraction(1), [(begin, Fraction(1, 30)) for begin in begins]))
    return Road([gate_of(plan) for plan in plans])
