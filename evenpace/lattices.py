"""Rows of integers whose combination of given fractions is an integer, and sums of floors."""

from evenpace.errors import InvalidCount
from evenpace.rationals import gcd


def bezout(one, other):
    """Return (g, u, w) with g = u * one + w * other, the greatest common divisor of natural numbers."""
    u, later_u = 1, 0
    w, later_w = 0, 1
    while other != 0:
        turns = one // other
        one, other = other, one - turns * other
        u, later_u = later_u, u - turns * later_u
        w, later_w = later_w, w - turns * later_w
    return (one, u, w)


def common_denominator(values):
    """Return the least common multiple of the denominators of fractions."""
    result = 1
    for value in values:
        result = result // gcd(result, value[1]) * value[1]
    return result


def whole(value, common):
    """Return the numerator of a fraction over a multiple of its denominator."""
    return value[0] * (common // value[1])


def scaled_values(values, modulus):
    """Return the numerators over the denominator modulus, each without its integer part."""
    return [whole(value, modulus) % modulus for value in values]


# A reach is a pair (divisor, row): what integer combinations of the first scaled values give,
# modulo the common denominator, are the multiples of the divisor, and the row gives the divisor itself.


def first_reach(values, modulus):
    """Return the reach of no values yet."""
    return (modulus, [0] * len(values))


def next_reach(reach, at, scaled, modulus):
    """Return the reach with one more value, which has the number at."""
    divisor, row = reach
    shared, old, new = bezout(divisor, scaled)
    result = [old * entry % modulus for entry in row]
    result[at] = new % modulus
    return (shared, result)


def relation(reach, at, scaled, modulus):
    """Return the row with the least positive entry at a place and none behind it that combines to zero."""
    divisor, row = reach
    shared = gcd(divisor, scaled)
    # Taking entries modulo the modulus subtracts only combinations of the relations for earlier places.
    result = [-(scaled // shared) * entry % modulus for entry in row]
    result[at] = divisor // shared
    return result


def congruence_basis(values):
    """Return a basis of the rows of integers whose products with the values sum to an integer.

    The basis is triangular: row number k has a positive entry at place k and zeros behind it.
    """
    modulus = common_denominator(values)
    reach = first_reach(values, modulus)
    basis = []
    for at, scaled in enumerate(scaled_values(values, modulus)):
        basis.append(relation(reach, at, scaled, modulus))
        reach = next_reach(reach, at, scaled, modulus)
    return basis


def congruence_solution(values, target):
    """Return a row of integers whose products with the values sum to the target plus an integer, or None."""
    modulus = common_denominator(values)
    # The values are in lowest terms, so together they reach each multiple of 1 / modulus and nothing else.
    if modulus % target[1] != 0:
        return None
    reach = first_reach(values, modulus)
    for at, scaled in enumerate(scaled_values(values, modulus)):
        reach = next_reach(reach, at, scaled, modulus)
    times = whole(target, modulus)
    return [entry * times % modulus for entry in reach[1]]


def floor_sum(count, slope, offset):
    """Return the sum of the floors of slope * k + offset for k from 0 to count - 1."""
    if count < 0:
        raise InvalidCount(count)
    den = common_denominator([slope, offset])
    rise = whole(slope, den)
    base = whole(offset, den)
    result = 0
    while True:
        result += count * (count - 1) // 2 * (rise // den) + count * (base // den)
        rise, base = rise % den, base % den
        top = rise * count + base
        if top < den:
            return result
        # Count the lattice points below the line by rows instead of by columns, as in Euclid's algorithm.
        count, base = top // den, top % den
        rise, den = den, rise
