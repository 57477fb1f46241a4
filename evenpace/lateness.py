"""Lateness: delays along a road that turn it into another one, or weights that show that there are none."""

from evenpace.gates import delayed_gate
from evenpace.lattices import congruence_basis, congruence_solution
from evenpace.rationals import ONE, ZERO, add, divide, multiply, remainder, subtract, total
from evenpace.steps import base_worths, crossed_gates, in_cell, turn_form, where_integer


def phase(gate, other):
    """Return the phase from a gate to another one at the same place, or None."""
    place, period, spans = gate
    if len(spans) == 0:
        return ZERO if len(other[2]) == 0 else None
    if period != other[1]:
        return None
    for begin, length in other[2]:
        delay = remainder(subtract(begin, spans[0][0]), period)
        if delayed_gate(gate, delay) == other:
            return delay
    return None


def unlikeness(road, other):
    """Return the answer 'unlike' that applies to two roads, or None."""
    if road.places() != other.places():
        return ("unlike", None)
    for gate, changed in zip(road.gates(), other.gates()):
        if phase(gate, changed) is None:
            return ("unlike", gate[0])
    return None


def bar_phases(road, other):
    """Return the phases of the barring gates of two roads that are not unlike."""
    return [phase(gate, other.gate_at(gate[0])) for gate in road.barring()]


def between(first, second, part):
    """Return the moment at which a walker is who is at two gates at two moments, by the part of the way."""
    return add(first, multiply(part, subtract(second, first)))


def fitting_delays(gates, phases):
    """Return delays (x, v) that give each gate its phase, or None."""
    one, two = gates[:2]
    first, second = phases[:2]
    way = subtract(two[0], one[0])
    # The first two gates may be turned by the combinations of this triple, and fit all gates looked at so far.
    triple = (ONE, ZERO, ONE)
    for gate, wanted in zip(gates[2:], phases[2:]):
        form = turn_form(one, two, gate)
        here = between(first, second, divide(subtract(gate[0], one[0]), way))
        found = congruence_solution(base_worths(triple, form), divide(subtract(wanted, here), gate[1]))
        if found is None:
            return None
        along, across = [(number, 1) for number in found]
        turned = add(multiply(along, triple[0]), multiply(across, triple[1]))
        first = add(first, multiply(turned, one[1]))
        second = add(second, multiply(multiply(across, triple[2]), two[1]))
        triple = where_integer(triple, form)
    slowness = divide(subtract(second, first), way)
    return (subtract(first, multiply(slowness, one[0])), slowness)


def product_sum(row, values):
    """Return the sum of the products of integers and fractions."""
    return total([multiply((number, 1), value) for number, value in zip(row, values)])


def row_combination(numbers, rows):
    """Return the sum of rows of integers, each multiplied by its number."""
    return [sum([number * entry for number, entry in zip(numbers, column)]) for column in zip(*rows)]


def weights_basis(gates):
    """Return lists of fractions of which the sums are all that may be weights, were it not for the phases."""
    forms = [turn_form(gates[0], gates[1], gate) for gate in gates[2:]]
    firsts, seconds = [form[0] for form in forms], [form[1] for form in forms]
    # The gates behind the first two may have any integers, as weights times periods, if the first two have integers.
    rows = congruence_basis(firsts)
    numbers = congruence_basis([product_sum(row, seconds) for row in rows])
    result = []
    for row in [row_combination(picked, rows) for picked in numbers]:
        turned = [multiply((-1, 1), product_sum(row, values)) for values in (firsts, seconds)]
        turned += [(number, 1) for number in row]
        result.append([divide(number, gate[1]) for number, gate in zip(turned, gates)])
    return result


def weighed(weights, values):
    """Return the sum of the products of two lists of fractions."""
    return total([multiply(weight, value) for weight, value in zip(weights, values)])


def refuting_weights(gates, phases):
    """Return correct weights for phases that no delays fit."""
    for weights in weights_basis(gates):
        if weighed(weights, phases)[1] != 1:
            return weights
    return None


def are_weights(gates, phases, weights):
    """Return whether weights are correct."""
    if len(weights) != len(gates):
        return False
    if total(weights) != ZERO or weighed(weights, [gate[0] for gate in gates]) != ZERO:
        return False
    if any([multiply(weight, gate[1])[1] != 1 for weight, gate in zip(weights, gates)]):
        return False
    return weighed(weights, phases)[1] != 1


def lateness(road, other):
    """Return how the other road is later than the road, or why it is not."""
    gates = crossed_gates(road)
    unlike = unlikeness(road, other)
    if unlike is not None:
        return unlike
    phases = bar_phases(road, other)
    delays = fitting_delays(gates, phases)
    if delays is None:
        return ("weights", refuting_weights(gates, phases))
    return ("later", in_cell(road, delays))


def check_lateness(road, other, answer):
    """Return whether an answer about two roads is correct."""
    gates = crossed_gates(road)
    kind, told = answer
    unlike = unlikeness(road, other)
    if kind == "unlike" or unlike is not None:
        return unlike == (kind, told)
    if kind == "later":
        delay, per_length = told
        return road.later(delay, per_length=per_length) == other
    return are_weights(gates, bar_phases(road, other), told)
