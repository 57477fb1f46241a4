"""Gates as tuples (place, period, spans), the windows between their spans, and their texts."""

from evenpace.errors import InvalidGate, NotBarring
from evenpace.lattices import common_denominator, whole
from evenpace.rationals import (
    ONE, ZERO, add, divide, floor_of, format_fraction, fraction, is_less, multiply, remainder, subtract)

MAX_SPANS = 6


def in_order(rows):
    """Return tuples that begin with a fraction in ascending order of these fractions."""
    common = common_denominator([row[0] for row in rows])
    return sorted(rows, key=lambda row: whole(row[0], common))


def span_ends(spans):
    """Return the end of each span."""
    return [add(begin, length) for begin, length in spans]


def next_begins(period, spans):
    """Return for each span the begin of the next one; behind the last comes the first, a period later."""
    begins = [begin for begin, length in spans]
    return begins[1:] + [add(begin, period) for begin in begins[:1]]


def fits(span, period):
    """Return whether a span begins within the first period and is neither empty nor longer than a period."""
    begin, length = span
    if is_less(begin, ZERO) or not is_less(begin, period):
        return False
    return is_less(ZERO, length) and not is_less(period, length)


def is_gate(gate):
    """Return whether a tuple (place, period, spans) is a gate."""
    place, period, spans = gate
    if not is_less(ZERO, period) or len(spans) > MAX_SPANS:
        return False
    if not all([fits(span, period) for span in spans]):
        return False
    return not any([is_less(after, end) for end, after in zip(span_ends(spans), next_begins(period, spans))])


def repeats(spans, many, period):
    """Return whether each span stands again, a period later, as many places further on."""
    shifted = [(add(begin, period), length) for begin, length in spans[:len(spans) - many]]
    return shifted == list(spans[many:])


def least_form(place, period, spans):
    """Return the normal form of a gate whose spans are in ascending order and do not overlap."""
    if len(spans) == 0:
        return (place, ONE, ())
    # The gate is open where two spans touch, so spans never merge and each least period has equally many.
    for many in range(1, len(spans)):
        part = multiply(period, fraction(many, len(spans)))
        if len(spans) % many == 0 and repeats(spans, many, part):
            return (place, part, tuple(spans[:many]))
    return (place, period, tuple(spans))


def normal_gate(gate):
    """Return the normal form of a gate."""
    if not is_gate(gate):
        raise InvalidGate(0)
    place, period, spans = gate
    return least_form(place, period, spans)


def shut_until(gate, moment):
    """Return the end of the span that a moment lies within, or None if the gate is open then."""
    place, period, spans = normal_gate(gate)
    for begin, length in spans:
        since = remainder(subtract(moment, begin), period)
        if since != ZERO and is_less(since, length):
            return add(moment, subtract(length, since))
    return None


def is_open(gate, moment):
    """Return whether a gate is open at a moment."""
    return shut_until(gate, moment) is None


def next_open(gate, moment):
    """Return the first open moment that is not earlier than a moment."""
    end = shut_until(gate, moment)
    return moment if end is None else end


def first_windows(gate):
    """Return the least period of a barring gate and its windows from number 0 on within one period."""
    place, period, spans = normal_gate(gate)
    if len(spans) == 0:
        raise NotBarring(place)
    return (period, list(zip(span_ends(spans), next_begins(period, spans))))


def periods_later(moment, periods, period):
    """Return the moment that is a number of periods later."""
    return add(moment, multiply((periods, 1), period))


def window(gate, number):
    """Return the pair (begin, end) of the window with a number."""
    period, windows = first_windows(gate)
    periods, at = divmod(number, len(windows))
    begin, end = windows[at]
    return (periods_later(begin, periods, period), periods_later(end, periods, period))


def window_at(gate, moment):
    """Return the number of the window that contains a moment, or None."""
    period, windows = first_windows(gate)
    for at, (begin, end) in enumerate(windows):
        periods = floor_of(divide(subtract(moment, begin), period))
        if not is_less(periods_later(end, periods, period), moment):
            return at + periods * len(windows)
    return None


def delayed_gate(gate, delay):
    """Return the normal form of the gate whose spans begin later by a delay."""
    place, period, spans = normal_gate(gate)
    moved = [(remainder(add(begin, delay), period), length) for begin, length in spans]
    return (place, period, tuple(in_order(moved)))


def format_gate(gate):
    """Return the text of a gate in normal form."""
    place, period, spans = gate
    texts = [f" {format_fraction(begin)}+{format_fraction(length)}" for begin, length in spans]
    return f"{format_fraction(place)} every {format_fraction(period)}" + "".join(texts)
