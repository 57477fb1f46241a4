"""Fractions as pairs (numerator, denominator) in lowest terms with a positive denominator."""

from evenpace.errors import ParseError, ZeroDenominator

ZERO = (0, 1)
ONE = (1, 1)
MAX_DIGITS = 30


def gcd(one, other):
    """Return the greatest common divisor of two integers, which is not negative."""
    one, other = abs(one), abs(other)
    while other != 0:
        one, other = other, one % other
    return one


def fraction(num, den=1):
    """Return num / den in lowest terms."""
    if den == 0:
        raise ZeroDenominator()
    divisor = gcd(num, den)
    if den < 0:
        divisor = -divisor
    return (num // divisor, den // divisor)


def add(one, other):
    """Return one + other."""
    return fraction(one[0] * other[1] + other[0] * one[1], one[1] * other[1])


def subtract(one, other):
    """Return one - other."""
    return fraction(one[0] * other[1] - other[0] * one[1], one[1] * other[1])


def multiply(one, other):
    """Return one * other."""
    return fraction(one[0] * other[0], one[1] * other[1])


def divide(one, other):
    """Return one / other; ZeroDenominator comes from fraction if other is zero."""
    return fraction(one[0] * other[1], one[1] * other[0])


def is_less(one, other):
    """Return whether one < other."""
    return one[0] * other[1] < other[0] * one[1]


def total(row, *, start=ZERO):
    """Return the sum of a list of fractions plus start."""
    result = start
    for value in row:
        result = add(result, value)
    return result


def floor_of(one):
    """Return the greatest integer that is not greater than a fraction."""
    return one[0] // one[1]


def ceiling_of(one):
    """Return the least integer that is not less than a fraction."""
    return -(-one[0] // one[1])


def remainder(one, period):
    """Return a time minus the greatest multiple of a positive period that is not greater."""
    turns = floor_of(divide(one, period))
    return subtract(one, multiply((turns, 1), period))


def common_divisor(one, other):
    """Return the greatest fraction of which both are integer multiples, or zero if both are zero."""
    return fraction(gcd(one[0] * other[1], other[0] * one[1]), one[1] * other[1])


def format_natural(number):
    """Return the digits of a natural number of any size."""
    blocks = []
    # Python's str refuses numbers of more than 4300 digits, so they are written block by block.
    while number >= 10 ** 60:
        number, low = divmod(number, 10 ** 60)
        blocks.append(str(low).zfill(60))
    blocks.append(str(number))
    return "".join(reversed(blocks))


def format_fraction(one):
    """Return the text of a fraction."""
    num, den = one
    sign = "-" if num < 0 else ""
    tail = "" if den == 1 else "/" + format_natural(den)
    return sign + format_natural(abs(num)) + tail


def is_natural(text):
    """Return whether a text is a natural number of at most 30 digits without leading zeros."""
    if text == "" or len(text) > MAX_DIGITS:
        return False
    if text.startswith("0") and text != "0":
        return False
    # Not isdigit: it also takes digits of other scripts.
    return all([sign in "0123456789" for sign in text])


def parse_fraction(text):
    """Return the fraction that a text writes; the text must be the one that format_fraction returns."""
    top, slash, bottom = text.removeprefix("-").partition("/")
    if slash == "":
        bottom = "1"
    if not is_natural(top) or not is_natural(bottom) or bottom == "0":
        raise ParseError(0)
    num = -int(top) if text.startswith("-") else int(top)
    result = fraction(num, int(bottom))
    # Rejects -0, a written denominator 1, and what is not in lowest terms.
    if format_fraction(result) != text:
        raise ParseError(0)
    return result
