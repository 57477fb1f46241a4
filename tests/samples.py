"""Samples for the tests, and the way between the package's pairs and Python's own Fraction."""

import random
from fractions import Fraction


def source(name):
    """A source of samples that is the same in each run."""
    return random.Random(name)


def number(rng, most=30):
    """An integer of one to `most` digits of either sign, now and then zero."""
    if rng.random() < 0.1:
        return 0
    digits = rng.randint(1, most)
    return rng.choice([-1, 1]) * rng.randint(10 ** (digits - 1), 10 ** digits - 1)


def pair(value):
    """The package's form of a Fraction or an integer."""
    value = Fraction(value)
    return (value.numerator, value.denominator)


def worth(one):
    """The Fraction that a pair of the package means."""
    return Fraction(one[0], one[1])


def small(rng):
    """A Fraction of small numbers; zero and integers are frequent."""
    return Fraction(rng.randint(-12, 12), rng.randint(1, 9))


def large(rng):
    """A Fraction whose numbers have up to twelve digits."""
    return Fraction(number(rng, 12), rng.randint(1, 10 ** 12 - 1))


def mixed(rng):
    """A Fraction, small or large."""
    return rng.choice([small, large])(rng)


def mixed_positive(rng):
    """A positive Fraction, small or large."""
    value = abs(mixed(rng))
    return value if value > 0 else Fraction(1, rng.randint(1, 9))


def is_plain_fraction(one):
    """Whether a value is a tuple of two integers in the form that [3] asks for."""
    if type(one) is not tuple or [type(part) for part in one] != [int, int]:
        return False
    return one[1] > 0 and pair(Fraction(*one)) == one
