"""Starts: when walkers with a given slowness may start, how often they may, and counts of copies of pieces."""

from evenpace.courses import Course
from evenpace.errors import InvalidCount, TooMany
from evenpace.gates import in_order
from evenpace.lattices import common_denominator, floor_sum, whole
from evenpace.pieces import course_pieces
from evenpace.rationals import (
    ZERO, add, ceiling_of, divide, floor_of, fraction, is_less, multiply, remainder, subtract)

MAX_INTERVALS = 1000


def slowness_bounds(shape):
    """Return the least and the greatest slowness of the corners of a piece."""
    common = common_denominator([slowness for start, slowness in shape])
    values = [whole(slowness, common) for start, slowness in shape]
    return (fraction(min(values), common), fraction(max(values), common))


def copies_across(shape, slowness, high):
    """Return the range (first, end) of the numbers of steps across after which a piece has a slowness."""
    least, greatest = slowness_bounds(shape)
    first = ceiling_of(divide(subtract(slowness, greatest), high))
    return (first, floor_of(divide(subtract(slowness, least), high)) + 1)


def interval_of(course, row, slowness):
    """Return the first and the last start with a slowness within the windows of a row."""
    # All gates have this denominator in common, so that the sharpest one is found without fractions.
    factor = course.length_unit * slowness[1]
    delays = [spot * slowness[0] * course.time_unit for spot in course.spots]
    ends = course.row_ends(row)
    begin = max([low * factor - delay for (low, high), delay in zip(ends, delays)])
    end = min([high * factor - delay for (low, high), delay in zip(ends, delays)])
    return (fraction(begin, factor * course.time_unit), fraction(end, factor * course.time_unit))


def start_interval(course, row, slowness, across):
    """Return the interval of the copy of a piece so many steps across that begins from 0 to below p."""
    (wide, zero), (shift, high) = course.base
    begin, end = interval_of(course, row, subtract(slowness, multiply((across, 1), high)))
    moved_begin = remainder(add(begin, multiply((across, 1), shift)), wide)
    return (moved_begin, add(moved_begin, subtract(end, begin)))


def open_starts(road, slowness):
    """Return (p, intervals): the starts from which a walker passes, which repeat with p."""
    course = Course(road)
    (wide, zero), (shift, high) = course.base
    copies = [(row, *copies_across(shape, slowness, high)) for row, shape in course_pieces(course)]
    quantity = sum([end - first for row, first, end in copies])
    if quantity > MAX_INTERVALS:
        raise TooMany(quantity)
    intervals = [
        start_interval(course, row, slowness, across) for row, first, end in copies for across in range(first, end)]
    return (wide, in_order(intervals))


def first_within(interval, period, since):
    """Return the first moment, not earlier than since, of an interval that repeats with a period."""
    begin, end = interval
    turns = ceiling_of(divide(subtract(since, end), period))
    moment = add(begin, multiply((turns, 1), period))
    return since if is_less(moment, since) else moment


def first_start(road, slowness, *, since=ZERO):
    """Return the first start, not earlier than since, from which a walker passes, or None."""
    period, intervals = open_starts(road, slowness)
    result = None
    for interval in intervals:
        moment = first_within(interval, period, since)
        if result is None or is_less(moment, result):
            result = moment
    return result


def count_within(interval, period, number):
    """Return how many integers from 0 to number - 1 lie in an interval that repeats with a period."""
    begin, end = interval
    # An integer x lies in (floor((x - begin) / period) + floor((end - x) / period) + 1) copies: in none or in one.
    begun = floor_sum(number, divide((1, 1), period), divide(subtract(ZERO, begin), period))
    lasting = floor_sum(number, divide((-1, 1), period), divide(end, period))
    return begun + lasting + number


def count_starts(road, slowness, number):
    """Return how many integers from 0 to number - 1 are starts from which a walker passes."""
    if number < 0:
        raise InvalidCount(number)
    period, intervals = open_starts(road, slowness)
    return sum([count_within(interval, period, number) for interval in intervals])


def count_copies(base, corner, starts, slownesses):
    """Return how many copies of a corner lie in a box that is not empty."""
    (wide, zero), (shift, high) = base
    first, end = [ceiling_of(divide(subtract(bound, corner[1]), high)) for bound in slownesses]
    start = add(corner[0], multiply((first, 1), shift))
    # With so many steps across, floor((start - bound) / wide) tells how many steps along lie below a bound.
    low, top = [
        floor_sum(end - first, divide(shift, wide), divide(subtract(start, bound), wide)) for bound in starts]
    return low - top


def is_empty(bounds):
    """Return whether nothing lies between a low and a high."""
    low, high = bounds
    return not is_less(low, high)


def count_pieces(road, starts, slownesses):
    """Return how many copies of pieces have their first corner in a box."""
    course = Course(road)
    found = course_pieces(course)
    if is_empty(starts) or is_empty(slownesses):
        return 0
    return sum([count_copies(course.base, shape[0], starts, slownesses) for row, shape in found])
