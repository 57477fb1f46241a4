"""Samples of gates, roads and walkers, and what DOC.md says of them, over Python's own Fraction."""

import math
from fractions import Fraction

from evenpace.roads import Road
from tests.samples import mixed, pair, small, worth

# A tuple (place, period, spans) of Fractions is called a plan here.

SPANS = (((1, 1), (1, 1)),)
WRONG = ((0, 1), (2, 1), (((1, 1), (3, 1)),))


def plain(place):
    """A simple gate at an integer place."""
    return ((place, 1), (2, 1), SPANS)


def gate_of(plan, kind=tuple):
    """The package's form of a plan, with the spans as a tuple or a list."""
    place, period, spans = plan
    return (pair(place), pair(period), kind([(pair(begin), pair(length)) for begin, length in spans]))


def plan_of(gate):
    """The plan that a gate of the package means."""
    place, period, spans = gate
    return (worth(place), worth(period), [(worth(begin), worth(length)) for begin, length in spans])


def some_period(rng):
    """A positive Fraction, mostly a small one."""
    if rng.random() < 0.2:
        return Fraction(rng.randint(1, 10 ** 12 - 1), rng.randint(1, 10 ** 12 - 1))
    return Fraction(rng.randint(1, 12), rng.choice([1, 1, 2, 3, 4, 6]))


def some_spans(rng, period, many):
    """So many spans for a period; some of them touch each other, begin at 0 or end with the period."""
    lengths = [rng.randint(1, 4) for _ in range(many)]
    gaps = [rng.choice([0, 0, 1, 2, 3]) for _ in range(many)]
    unit = period / (sum(lengths) + sum(gaps)) if many else period
    at = rng.choice([Fraction(0), unit, unit * rng.randint(0, 40) / 3, abs(mixed(rng))])
    spans = []
    for length, gap in zip(lengths, gaps):
        spans.append((at % period, length * unit))
        at += (length + gap) * unit
    return sorted(spans)


def some_plan(rng, place=None, many=None):
    """A plan of a gate; its period need not be the least one."""
    place = mixed(rng) if place is None else place
    many = rng.choice([0, 1, 1, 2, 2, 3, 3, 4, 5, 6]) if many is None else many
    period = some_period(rng)
    spans = some_spans(rng, period, many)
    times = rng.randint(1, 6 // many if many else 3)
    return repeated((place, period, spans), times)


def repeated(plan, times):
    """The same gate, written with several periods as one."""
    place, period, spans = plan
    copies = [(begin + k * period, length) for k in range(times) for begin, length in spans]
    return (place, period * times, copies)


def some_places(rng, many):
    """So many different places in any order."""
    places = {Fraction(num, den) for den in (1, 2, 3) for num in range(-9, 10)}
    return rng.sample(sorted(places), many)


def some_gates(rng, many):
    """So many gates at different places in any order, with their spans in tuples or lists."""
    places = some_places(rng, many)
    return [gate_of(some_plan(rng, place=place), rng.choice([tuple, list])) for place in places]


def some_road(rng, barring=None, idle=0):
    """A road with so many barring gates of periods that fit together, and so many gates without a span."""
    barring = rng.randint(2, 8) if barring is None else barring
    places = some_places(rng, barring + idle)
    plans = []
    for place in places[:barring]:
        period = Fraction(rng.randint(1, 6), rng.choice([1, 1, 2, 3]))
        plans.append((place, period, some_spans(rng, period, rng.randint(1, 3))))
    plans += [(place, some_period(rng), []) for place in places[barring:]]
    return Road([gate_of(plan) for plan in plans])


def large_road(rng, barring):
    """A road whose places and periods have numerators and denominators of up to 12 digits."""
    plans = []
    for place in {large_number(rng) * rng.choice([-1, 1]) for _ in range(barring)}:
        period = large_number(rng)
        plans.append((place, period, some_spans(rng, period, rng.randint(1, 6))))
    return Road([gate_of(plan) for plan in plans])


def large_number(rng):
    """A positive Fraction of two numbers of twelve digits, before it is reduced."""
    return Fraction(rng.randint(10 ** 11, 10 ** 12 - 1), rng.randint(10 ** 11, 10 ** 12 - 1))


def some_walker(rng, far=False):
    """A start and a slowness, as Fractions; far ones have eighty digits."""
    start, slowness = mixed(rng), small(rng)
    if far:
        start += rng.randint(-10 ** 80, 10 ** 80)
        slowness += rng.randint(-10 ** 80, 10 ** 80)
    return (start, slowness)


def pair_of(walker):
    """The package's form of two Fractions."""
    return (pair(walker[0]), pair(walker[1]))


def is_plan(plan):
    """Whether a plan is a gate, in the words of [4]."""
    place, period, spans = plan
    if period <= 0 or len(spans) > 6:
        return False
    for begin, length in spans:
        if not (0 <= begin < period and 0 < length <= period):
            return False
    for (begin, length), (after, rest) in zip(spans, spans[1:]):
        if begin + length > after:
            return False
    return not spans or sum(spans[-1]) <= spans[0][0] + period


def is_shut(plan, moment):
    """Whether a gate is shut at a moment, in the words of [4]."""
    place, period, spans = plan
    for begin, length in spans:
        near = math.floor((moment - begin) / period)
        for k in (near - 1, near, near + 1):
            if begin + k * period < moment < begin + length + k * period:
                return True
    return False


def is_normal(plan):
    """Whether a plan is in the normal form of [5]."""
    place, period, spans = plan
    if not spans:
        return period == 1
    if not is_plan(plan):
        return False
    for parts in range(2, len(spans) + 1):
        part = period / parts
        if sorted([((begin + part) % period, length) for begin, length in spans]) == spans:
            return False
    return True


def is_same_gate(one, other):
    """Whether two plans have the same place and the same shut moments, by their spans within both periods."""
    if one[0] != other[0] or not one[2] or not other[2]:
        return one[0] == other[0] and not one[2] and not other[2]
    ratio = one[1] / other[1]
    if len(one[2]) * ratio.denominator != len(other[2]) * ratio.numerator:
        return False
    return repeated(one, ratio.denominator) == repeated(other, ratio.numerator)


def normal_plan(plan):
    """The normal form of a plan that has spans, by trying all periods."""
    place, period, spans = plan
    for parts in range(len(spans), 0, -1):
        part = period / parts
        short = (place, part, [span for span in spans if span[0] < part])
        if repeated(short, parts) == plan:
            return short


def telling_moments(rng, plan):
    """Moments at the begins and ends of spans, in their midst and between them, near and many periods away."""
    place, period, spans = plan
    moments = [Fraction(0), period, mixed(rng)]
    for begin, length in spans:
        moments += [begin, begin + length, begin + length / 2, begin + length / 97, begin + length * 96 / 97]
        moments += [begin - period / 1000, begin + length + period / 1000]
    turns = [0, 1, -1, rng.randint(-99, 99), rng.randint(-10 ** 80, 10 ** 80)]
    return [moment + period * k for moment in moments for k in turns]
