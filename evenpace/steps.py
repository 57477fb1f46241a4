"""The steps of a crossed road: moves of walkers after which all barring gates are as before."""

from evenpace.errors import NotCrossed
from evenpace.lattices import congruence_basis
from evenpace.rationals import (
    ONE, ZERO, add, common_divisor, divide, floor_of, multiply, remainder, subtract)
from evenpace.roads import moment_at

# A triple (a, b, c) with a > 0, c > 0 and 0 <= b < a stands for the integer combinations of (a, 0) and (b, c).
# A form is a pair of factors; its worth at (x, y) is their products with x and y, added.


def crossed_gates(road):
    """Return the barring gates of a crossed road."""
    gates = road.barring()
    if len(gates) < 2:
        raise NotCrossed(len(gates))
    return gates


def base_worths(triple, form):
    """Return the worths of a form at the two pairs that a triple stands for."""
    wide, shift, high = triple
    return [multiply(form[0], wide), add(multiply(form[0], shift), multiply(form[1], high))]


def where_integer(triple, form):
    """Return the triple for those combinations of a triple at which a form is an integer."""
    wide, shift, high = triple
    # The rows are triangular, as congruence_basis says: (m, 0) and (along, across).
    first, (along, across) = congruence_basis(base_worths(triple, form))
    wider = multiply((first[0], 1), wide)
    beside = add(multiply((along, 1), wide), multiply((across, 1), shift))
    return (wider, remainder(beside, wider), multiply((across, 1), high))


def coarse_triple(one, other):
    """Return a triple whose combinations contain all pairs that are steps for two gates."""
    high = divide(common_divisor(one[1], other[1]), subtract(other[0], one[0]))
    return (common_divisor(one[1], multiply(high, one[0])), ZERO, high)


def steps(road):
    """Return the pair of the base steps."""
    gates = crossed_gates(road)
    triple = coarse_triple(gates[0], gates[1])
    for place, period, spans in gates:
        triple = where_integer(triple, (divide(ONE, period), divide(place, period)))
    wide, shift, high = triple
    return ((wide, ZERO), (shift, high))


def turn_form(one, other, gate):
    """Return the form that gives the turns of a gate from the turns of two others."""
    share = divide(subtract(gate[0], one[0]), subtract(other[0], one[0]))
    return (
        divide(multiply(subtract(ONE, share), one[1]), gate[1]),
        divide(multiply(share, other[1]), gate[1]))


def turns(road):
    """Return (a, b, c): the steps turn the first two barring gates by the combinations of (a, 0) and (b, c)."""
    gates = crossed_gates(road)
    triple = (ONE, ZERO, ONE)
    for gate in gates[2:]:
        triple = where_integer(triple, turn_form(gates[0], gates[1], gate))
    # What began with integers stays integers.
    return tuple([value[0] for value in triple])


def is_step(road, pair):
    """Return whether a pair is a step."""
    gates = crossed_gates(road)
    return all([divide(moment_at(pair, place), period)[1] == 1 for place, period, spans in gates])


def cell_shift(base, walker):
    """Return the numbers of both base steps, along and across, that lead from the base cell to a walker."""
    first, second = base
    start, slowness = walker
    across = floor_of(divide(slowness, second[1]))
    left = subtract(start, multiply((across, 1), second[0]))
    return (floor_of(divide(left, first[0])), across)


def combined_step(base, along, across):
    """Return the step made of so many of both base steps."""
    first, second = base
    x = add(multiply((along, 1), first[0]), multiply((across, 1), second[0]))
    return (x, multiply((across, 1), second[1]))


def moved(walker, step):
    """Return a walker moved by a step."""
    return (add(walker[0], step[0]), add(walker[1], step[1]))


def in_cell(road, walker):
    """Return the walker of the base cell that differs from a walker by a step."""
    base = steps(road)
    along, across = cell_shift(base, walker)
    return moved(walker, combined_step(base, -along, -across))
