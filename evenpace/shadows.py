"""Shadows: what a road leaves open at a place, and comparisons of roads by the walkers who pass."""

from evenpace.courses import Course
from evenpace.gates import in_order, least_form
from evenpace.lattices import bezout
from evenpace.pieces import Grid, course_pieces, fold_at
from evenpace.rationals import (
    ZERO, add, common_divisor, divide, floor_of, is_less, multiply, remainder, subtract)
from evenpace.roads import moment_at
from evenpace.rows import full_rows
from evenpace.steps import combined_step, moved


def greater(one, other):
    """Return the greater one of two fractions."""
    return other if is_less(one, other) else one


def lesser(one, other):
    """Return the lesser one of two fractions."""
    return one if is_less(one, other) else other


def times(number, value):
    """Return a fraction multiplied by an integer."""
    return multiply((number, 1), value)


class Passers:
    """All walkers who pass a crossed road: its pieces, and what repeats them."""

    def __init__(self, road):
        course = Course(road)
        self.base = course.base
        self.found = course_pieces(course)
        self.grid = Grid(self.found)

    def shadow_at(self, place):
        """Return the shadow at a place, or None if nobody passes."""
        if len(self.found) == 0:
            return None
        fold = fold_at(self.base, place)
        return least_form(place, fold, gaps(self.grid.extents(place), fold))


def gaps(extents, fold):
    """Return the spans (begin, length) that extents repeated with a fold leave, in ascending order."""
    begun = [(remainder(begin, fold), subtract(end, begin)) for begin, end in extents]
    arcs = [(begin, add(begin, length)) for begin, length in in_order(begun)]
    reach = arcs[0][1]
    for begin, end in arcs:
        reach = greater(reach, end)
    # What lasts longest reaches into the next repetition, which is as well the first one.
    reach = subtract(reach, fold)
    result = []
    for begin, end in arcs:
        if is_less(reach, begin):
            result.append((remainder(reach, fold), subtract(begin, reach)))
        reach = greater(reach, end)
    return in_order(result)


def shadow(road, place):
    """Return the gate that is shut exactly when nobody who passes the road is at a place, or None."""
    return Passers(road).shadow_at(place)


def tightest(road):
    """Return the shadows at the places of the gates, or None if nobody passes."""
    passers = Passers(road)
    result = [passers.shadow_at(place) for place in road.places()]
    return None if None in result else result


def is_tight(road):
    """Return whether each gate of the road is its shadow."""
    return tightest(road) == road.gates()


def combination(one, other, target):
    """Return integers u and w with u * one + w * other = target, a multiple of their common divisor; one > 0."""
    divisor = common_divisor(one, other)
    first, second, wanted = [divide(value, divisor)[0] for value in (one, other, target)]
    shared, u, w = bezout(first, abs(second))
    return (u * wanted, w * wanted if second > 0 else -w * wanted)


def shut_moment(extent, fold, period, span):
    """Return (folds, moment) of an extent such that the moment, so many folds later, lies within a span, or None."""
    early, late = extent
    begin, end = span[0], add(span[0], span[1])
    divisor = common_divisor(fold, period)
    # The least shift by folds and periods after which the extent reaches beyond the begin of the span.
    shift = times(floor_of(divide(subtract(begin, late), divisor)) + 1, divisor)
    if not is_less(add(early, shift), end):
        return None
    low = greater(early, subtract(begin, shift))
    high = lesser(late, subtract(end, shift))
    folds, periods = combination(fold, period, shift)
    return (folds, divide(add(low, high), (2, 1)))


def walker_between(shape, place, moment):
    """Return a walker of a piece who is at a place at a moment."""
    moments = [moment_at(corner, place) for corner in shape]
    low, high = 0, 0
    for at, other in enumerate(moments):
        low = at if is_less(other, moments[low]) else low
        high = at if is_less(moments[high], other) else high
    width = subtract(moments[high], moments[low])
    if width == ZERO:
        return shape[low]
    part = divide(subtract(moment, moments[low]), width)
    (start, slowness), (late_start, late_slowness) = shape[low], shape[high]
    return (
        add(start, multiply(part, subtract(late_start, start))),
        add(slowness, multiply(part, subtract(late_slowness, slowness))))


def exception_at(passers, gate):
    """Return a walker among those who pass a road at whose moment a gate is shut, or None."""
    place, period, spans = gate
    if len(spans) == 0:
        return None
    fold = fold_at(passers.base, place)
    for (row, shape), extent in zip(passers.found, passers.grid.extents(place)):
        for span in spans:
            told = shut_moment(extent, fold, period, span)
            if told is not None:
                folds, moment = told
                wide, slant = passers.base[0][0], moment_at(passers.base[1], place)
                along, across = combination(wide, slant, times(folds, fold))
                return moved(walker_between(shape, place, moment), combined_step(passers.base, along, across))
    return None


def exception(road, other):
    """Return a walker who passes the road but not the other road, or None."""
    passers = Passers(road)
    for gate in other.gates():
        walker = exception_at(passers, gate)
        if walker is not None:
            return walker
    return None


def is_inside(road, other):
    """Return whether all walkers who pass the road pass the other road."""
    return exception(road, other) is None


def is_needed(road, gate):
    """Return whether someone passes a road without a barring gate at whose moment that gate is shut."""
    return exception_at(Passers(road.without(gate[0])), gate) is not None


def needless(road):
    """Return the places of the gates without each of which the same walkers pass."""
    # Called for its error: the road may be too wide where the roads without a gate are not.
    full_rows(Course(road))
    bars = road.barring()
    needed = [gate[0] for gate in bars if len(bars) == 2 or is_needed(road, gate)]
    return [place for place in road.places() if place not in needed]
