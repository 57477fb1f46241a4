"""Open and shut moments of gates, the next open moment, and the windows."""

import unittest
from fractions import Fraction

from evenpace import gates
from evenpace.errors import NotBarring, PaceError
from tests.gate_samples import gate_of, is_shut, normal_plan, some_plan, telling_moments
from tests.samples import is_plain_fraction, mixed, pair, source, worth

SIMPLE = ((0, 1), (2, 1), (((1, 1), (1, 1)),))


def windows_around(plan, number):
    """The window of [6] with a number, for a plan in normal form."""
    place, period, spans = plan
    j, k = divmod(number, len(spans))
    begin = sum(spans[k])
    end = spans[k + 1][0] if k + 1 < len(spans) else spans[0][0] + period
    return (begin + j * period, end + j * period)


class OpenMoments(unittest.TestCase):
    def test_many(self):
        rng = source("open moments")
        for _ in range(50):
            plan = some_plan(rng)
            for kind in (tuple, list):
                given = gate_of(plan, kind)
                for moment in telling_moments(rng, plan):
                    self.assertIs(gates.is_open(given, pair(moment)), not is_shut(plan, moment), (plan, moment))
                self.assertEqual(given, gate_of(plan, kind))

    def test_begin_and_end_are_open(self):
        for turns in (0, 1, -1, 10 ** 79, -10 ** 79):
            for rest, is_open in ((0, True), (1, True), (Fraction(3, 2), False), (Fraction(999, 1000), True)):
                self.assertIs(gates.is_open(SIMPLE, pair(2 * turns + rest)), is_open)
            for rest in (1 + Fraction(1, 10 ** 80), 2 - Fraction(1, 10 ** 80)):
                self.assertIs(gates.is_open(SIMPLE, pair(2 * turns + rest)), False)

    def test_span_as_long_as_the_period(self):
        gate = ((0, 1), (3, 1), (((1, 2), (3, 1)),))
        for turns in (0, -1, 5):
            self.assertIs(gates.is_open(gate, pair(Fraction(1, 2) + 3 * turns)), True)
            for moment in (0, 1, Fraction(1, 3), Fraction(2, 3)):
                self.assertIs(gates.is_open(gate, pair(moment + 3 * turns)), False)

    def test_span_that_reaches_into_the_next_period(self):
        gate = ((0, 1), (4, 1), (((1, 1), (1, 1)), ((3, 1), (2, 1))))
        shut = [moment for moment in range(0, 16) if not gates.is_open(gate, pair(Fraction(moment, 2)))]
        self.assertEqual(shut, [0, 1, 3, 7, 8, 9, 11, 15])

    def test_no_span(self):
        for moment in ((0, 1), (-5, 7), (10 ** 80, 3)):
            self.assertIs(gates.is_open(((1, 1), (2, 1), []), moment), True)

    def test_by_keyword(self):
        self.assertIs(gates.is_open(moment=(3, 2), gate=SIMPLE), False)


class NextOpenMoments(unittest.TestCase):
    def check(self, plan, moment):
        result = gates.next_open(gate_of(plan), pair(moment))
        self.assertTrue(is_plain_fraction(result), result)
        found = worth(result)
        if not is_shut(plan, moment):
            self.assertEqual(found, moment)
            return
        self.assertFalse(is_shut(plan, found))
        # One span reaches from before the moment to the result, so no moment between is open.
        place, period, spans = plan
        ends = [(found - sum(span)) / period for span in spans]
        lengths = [span[1] for span, end in zip(spans, ends) if end.denominator == 1]
        self.assertTrue(any([found - length < moment < found for length in lengths]), (plan, moment))

    def test_many(self):
        rng = source("next open")
        for _ in range(50):
            plan = some_plan(rng)
            for moment in telling_moments(rng, plan):
                self.check(plan, moment)

    def test_touching_spans(self):
        gate = [((0, 1), (3, 1), kind((((0, 1), (1, 1)), ((1, 1), (1, 1))))) for kind in (tuple, list)]
        for given in gate:
            self.assertEqual(gates.next_open(given, (1, 2)), (1, 1))
            self.assertEqual(gates.next_open(given, (1, 1)), (1, 1))
            self.assertEqual(gates.next_open(given, (3, 2)), (2, 1))

    def test_no_span_and_keyword(self):
        self.assertEqual(gates.next_open(moment=(-7, 3), gate=((1, 1), (2, 1), ())), (-7, 3))


class Windows(unittest.TestCase):
    def some_numbers(self, rng, many):
        near = list(range(-2 * many - 1, 2 * many + 2))
        return near + [rng.randint(-10 ** 90, 10 ** 90) for _ in range(6)] + [10 ** 99, -10 ** 99]

    def check_window(self, given, plan, number):
        begin, end = expected = windows_around(plan, number)
        result = gates.window(given, number)
        self.assertIs(type(result), tuple)
        self.assertEqual([worth(value) for value in result], list(expected))
        self.assertTrue(is_plain_fraction(result[0]) and is_plain_fraction(result[1]), result)
        for moment in (begin, end, (begin + end) / 2, begin + (end - begin) / 10 ** 6):
            found = gates.window_at(given, pair(moment))
            self.assertEqual((type(found), found), (int, number))
        after = windows_around(plan, number + 1)[0]
        for moment in ((end + after) / 2, end + (after - end) / 10 ** 6, after - (after - end) / 10 ** 6):
            self.assertIsNone(gates.window_at(given, pair(moment)))

    def test_many(self):
        rng = source("windows")
        for _ in range(50):
            plan = some_plan(rng, many=rng.randint(1, 6))
            for kind in (tuple, list):
                given = gate_of(plan, kind)
                for number in self.some_numbers(rng, len(plan[2])):
                    self.check_window(given, normal_plan(plan), number)
                self.assertEqual(given, gate_of(plan, kind))

    def test_windows_are_the_open_moments(self):
        rng = source("open windows")
        for _ in range(50):
            plan = some_plan(rng, many=rng.randint(1, 6))
            for moment in telling_moments(rng, plan):
                found = gates.window_at(gate_of(plan), pair(moment))
                self.assertEqual(found is None, is_shut(plan, moment))
                if found is not None:
                    begin, end = windows_around(normal_plan(plan), found)
                    self.assertTrue(begin <= moment <= end)

    def test_numbers_of_the_normal_form(self):
        # Written with two periods as one: the numbers are those of the single period.
        double = ((0, 1), (4, 1), [((1, 1), (1, 1)), ((3, 1), (1, 1))])
        for number in (-3, 0, 1, 10 ** 50):
            self.assertEqual(gates.window(double, number), gates.window(SIMPLE, number))
        self.assertEqual(gates.window_at(double, (7, 2)), None)
        self.assertEqual(gates.window_at(double, (4, 1)), 1)

    def test_window_of_one_moment(self):
        gate = ((0, 1), (2, 1), (((0, 1), (1, 2)), ((1, 2), (3, 2))))
        self.assertEqual([gates.window(gate, k) for k in (-1, 0, 1)], [((0, 1),) * 2, ((1, 2),) * 2, ((2, 1),) * 2])
        self.assertEqual([gates.window_at(gate, moment) for moment in ((0, 1), (1, 2), (1, 4))], [-1, 0, None])
        whole = ((0, 1), (2, 1), (((1, 3), (2, 1)),))
        self.assertEqual(gates.window(whole, 4), ((31, 3), (31, 3)))
        self.assertEqual(gates.window_at(whole, (1, 3)), -1)

    def test_not_barring(self):
        rng = source("not barring")
        for _ in range(20):
            place = pair(mixed(rng))
            for spans in ((), []):
                gate = (place, (2, 1), spans)
                for call in (lambda: gates.window(gate, 0), lambda: gates.window_at(gate, (0, 1))):
                    with self.assertRaises(NotBarring) as caught:
                        call()
                    self.assertEqual((caught.exception.place, caught.exception.tag), (place, "NotBarring"))
                    self.assertIsInstance(caught.exception, PaceError)

    def test_by_keyword(self):
        self.assertEqual(gates.window(number=-1, gate=SIMPLE), ((0, 1), (1, 1)))
        self.assertEqual(gates.window_at(moment=(1, 1), gate=SIMPLE), -1)
