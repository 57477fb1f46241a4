"""The shapes of rows of windows in the plane of starts and slownesses: their corners and areas."""

from evenpace.courses import gate_pairs
from evenpace.lattices import common_denominator, whole
from evenpace.rationals import fraction


def in_walker_order(rows):
    """Return tuples that begin with a start and a slowness in ascending order of these."""
    starts = common_denominator([row[0] for row in rows])
    slownesses = common_denominator([row[1] for row in rows])
    return sorted(rows, key=lambda row: (whole(row[0], starts), whole(row[1], slownesses)))


def keeps_within(spots, ends, pair, moments):
    """Return whether one who is at a pair of gates at two moments is within the window of each gate."""
    one, two = pair
    early, late = moments
    den = spots[two] - spots[one]
    for spot, (begin, end) in zip(spots, ends):
        num = early * (spots[two] - spot) + late * (spot - spots[one])
        if num < begin * den or num > end * den:
            return False
    return True


def walker_through(course, pair, moments):
    """Return the walker who is at a pair of gates at two moments."""
    one, two = [course.spots[at] for at in pair]
    early, late = moments
    den = (two - one) * course.time_unit
    return (fraction(early * two - late * one, den), fraction((late - early) * course.length_unit, den))


def corners(course, row):
    """Return the corners of what the windows of a row have in common, in ascending order."""
    ends = course.row_ends(row)
    found = {}
    # Wherever the edges of two windows cross within all windows, there is a corner, and nowhere else.
    for pair in gate_pairs(len(row)):
        one, two = pair
        for moments in [(early, late) for early in ends[one] for late in ends[two]]:
            if keeps_within(course.spots, ends, pair, moments):
                found[walker_through(course, pair, moments)] = True
    return in_walker_order(list(found))


def side_of(point, one, two):
    """Return a number that is positive for points on the left of the way from one point to another."""
    return (two[0] - one[0]) * (point[1] - one[1]) - (two[1] - one[1]) * (point[0] - one[0])


def double_below(chain):
    """Return twice the area between a chain of points and the axis."""
    return sum([(x - before) * (y + level) for (before, level), (x, y) in zip(chain, chain[1:])])


def double_area(points):
    """Return twice the area of a convex shape whose corners are given in ascending order."""
    one, two = points[0], points[-1]
    upper = [point for point in points if side_of(point, one, two) > 0]
    lower = [point for point in points if side_of(point, one, two) < 0]
    return double_below([one, *upper, two]) - double_below([one, *lower, two])
