"""Closures: certificates that nobody passes a road."""

from evenpace.courses import Course, following, highest, lowest
from evenpace.errors import Passable
from evenpace.pieces import course_pieces
from evenpace.rationals import is_less
from evenpace.rows import first_rows, longer_rows


def closing_node(course, row):
    """Return a correct node for a row that leads to no row of all barring gates."""
    link = following(course, row)
    low, high, first, many = link
    return (low, high, first, [closing_node(course, longer) for longer in longer_rows(row, link)])


def closure(road):
    """Return a closure of a road that nobody passes."""
    course = Course(road)
    found = course_pieces(course)
    if len(found) > 0:
        row, shape = found[0]
        raise Passable(shape[0])
    return [closing_node(course, row) for row in first_rows(course)]


def is_pair_below(pair, many):
    """Return whether a pair is (i, k) with 0 <= i < k < many."""
    one, two = pair
    return 0 <= one < two < many


def bounds_hold(course, row, node):
    """Return whether the pairs of a node show that no windows but those of its children follow a row."""
    low, high, first, children = node
    at = len(row)
    if not is_pair_below(low, at) or not is_pair_below(high, at):
        return False
    ends = course.row_ends(row)
    end_before = course.window_ends(at, first - 1)[1]
    begin_after = course.window_ends(at, first + len(children))[0]
    return (
        is_less((end_before, 1), lowest(course, ends, low, at))
        and is_less(highest(course, ends, high, at), (begin_after, 1)))


def is_correct(course, row, node):
    """Return whether a node is correct for a row."""
    if len(row) == len(course.spots) or not bounds_hold(course, row, node):
        return False
    low, high, first, children = node
    for number, child in enumerate(children):
        if not is_correct(course, (*row, first + number), child):
            return False
    return True


def check_closure(road, certificate):
    """Return whether a list is a closure of a road."""
    course = Course(road)
    rows = first_rows(course)
    if len(rows) != len(certificate):
        return False
    for row, node in zip(rows, certificate):
        if not is_correct(course, row, node):
            return False
    return True
