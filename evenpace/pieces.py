"""Pieces: the convex sets of walkers who pass a crossed road, of which all others are copies."""

from evenpace.courses import Course
from evenpace.gates import window_at
from evenpace.lattices import common_denominator, whole
from evenpace.rationals import common_divisor, divide, fraction, multiply
from evenpace.roads import moment_at
from evenpace.rows import full_rows
from evenpace.shapes import corners, double_area, in_walker_order
from evenpace.steps import cell_shift, combined_step, moved


def moved_row(course, row, step):
    """Return the row whose walkers are those of a row, moved by a step."""
    result = []
    for number, (place, period, spans) in zip(row, course.bars):
        # A step turns each gate by a whole number of periods, so the denominator is 1.
        periods = divide(moment_at(step, place), period)[0]
        result.append(number + periods * len(spans))
    return tuple(result)


def cell_piece(course, row):
    """Return the copy of a row's piece with its first corner in the base cell, and how it is moved to the row."""
    found = corners(course, row)
    along, across = cell_shift(course.base, found[0])
    back = combined_step(course.base, -along, -across)
    piece = (moved_row(course, row, back), [moved(corner, back) for corner in found])
    return (piece, along, across)


def course_pieces(course):
    """Return the pieces of the road of a course."""
    found = [cell_piece(course, row)[0] for row in full_rows(course)]
    ordered = in_walker_order([(*piece[1][0], piece) for piece in found])
    return [piece for start, slowness, piece in ordered]


def pieces(road):
    """Return the pieces in ascending order of their first corners, each a tuple (row, corners)."""
    return course_pieces(Course(road))


def row_of(course, walker):
    """Return the row of windows that a walker passes, or None if a gate is shut."""
    row = [window_at(gate, moment_at(walker, gate[0])) for gate in course.bars]
    return None if None in row else tuple(row)


def piece_at(road, walker):
    """Return (index, along, across) for the copy of a piece that a walker belongs to, or None."""
    course = Course(road)
    rows = [row for row, shape in course_pieces(course)]
    own = row_of(course, walker)
    if own is None:
        return None
    (row, shape), along, across = cell_piece(course, own)
    return (rows.index(row), along, across)


class Grid:
    """Pieces with their corners in whole numbers: starts and slownesses over a common denominator each."""

    def __init__(self, found):
        self.start_unit = common_denominator([corner[0] for row, shape in found for corner in shape])
        self.slowness_unit = common_denominator([corner[1] for row, shape in found for corner in shape])
        self.shapes = [self.whole_shape(shape) for row, shape in found]

    def whole_shape(self, shape):
        """Return the corners of a piece in whole numbers."""
        return [(whole(start, self.start_unit), whole(slowness, self.slowness_unit)) for start, slowness in shape]

    def area(self):
        """Return the total area of the pieces."""
        doubled = sum([double_area(shape) for shape in self.shapes])
        return fraction(doubled, 2 * self.start_unit * self.slowness_unit)

    def extents(self, place):
        """Return for each piece the earliest and the latest moment of its walkers at a place."""
        start_factor = self.slowness_unit * place[1]
        slowness_factor = self.start_unit * place[0]
        den = self.start_unit * start_factor
        result = []
        for shape in self.shapes:
            moments = [start * start_factor + slowness * slowness_factor for start, slowness in shape]
            result.append((fraction(min(moments), den), fraction(max(moments), den)))
        return result


def share(road):
    """Return the part that the pieces have in the area of the base cell."""
    course = Course(road)
    first, second = course.base
    return divide(Grid(course_pieces(course)).area(), multiply(first[0], second[1]))


def fold_at(base, place):
    """Return the period with which the moments at a place repeat."""
    first, second = base
    return common_divisor(first[0], moment_at(second, place))


def passage(road, place):
    """Return (fold, extents): the moments at a place, for each piece, and the fold by which all repeat."""
    course = Course(road)
    found = course_pieces(course)
    return (fold_at(course.base, place), Grid(found).extents(place))
