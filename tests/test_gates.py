"""Gates: which tuples are gates, their normal form, and gates made later."""

import unittest
from fractions import Fraction

from evenpace import gates
from evenpace.errors import InvalidGate, PaceError
from tests.gate_samples import (
    gate_of, is_normal, is_plan, is_same_gate, is_shut, normal_plan, plan_of, repeated, some_plan, telling_moments)
from tests.samples import is_plain_fraction, mixed, pair, source, worth

HALF = Fraction(1, 2)
WRONG_PLANS = {
    "no period": (0, 0, []),
    "a negative period": (0, -2, []),
    "a negative period with a span": (0, -2, [(0, 1)]),
    "a begin before 0": (0, 2, [(-HALF, 1)]),
    "a begin at the period": (0, 2, [(2, 1)]),
    "a begin behind the period": (0, 2, [(5, 1)]),
    "no length": (0, 2, [(1, 0)]),
    "a negative length": (0, 2, [(1, -1)]),
    "longer than the period": (0, 2, [(1, 2 + HALF)]),
    "longer than the period from 0 on": (0, 2, [(0, 3)]),
    "spans that overlap": (0, 4, [(0, 2), (1, 1)]),
    "equal spans": (0, 4, [(1, 1), (1, 1)]),
    "descending order": (0, 4, [(2, 1), (0, 1)]),
    "a last span that overlaps the first one": (0, 4, [(1, 1), (3, 2 + HALF)]),
    "a wrong span behind good ones": (0, 9, [(1, 1), (3, 1), (5, 0)]),
    "seven spans": (0, 7, [(k, HALF) for k in range(7)]),
    "sixty spans": (0, 60, [(k, HALF) for k in range(60)]),
}
RIGHT_PLANS = {
    "no span": (0, 3, []),
    "as long as the period": (0, 2, [(0, 2)]),
    "as long as the period from its midst on": (-1, 2, [(HALF, 2)]),
    "spans that touch": (0, 4, [(0, 1), (1, 2)]),
    "spans that touch all around": (0, 4, [(1, 1), (2, 1), (3, 2)]),
    "a last span that ends at the first one": (0, 4, [(1, 1), (3, 2)]),
    "a begin at 0 and an end at the period": (0, 4, [(0, 1), (3, 1)]),
    "six spans": (0, 6, [(k, Fraction(k + 1, 7)) for k in range(6)]),
}


def calls(gate):
    """A call of each function that takes a gate, except is_gate."""
    return {
        "normal_gate": lambda: gates.normal_gate(gate),
        "is_open": lambda: gates.is_open(gate, (0, 1)),
        "window": lambda: gates.window(gate, 0),
        "window_at": lambda: gates.window_at(gate, (0, 1)),
        "next_open": lambda: gates.next_open(gate, (0, 1)),
        "delayed_gate": lambda: gates.delayed_gate(gate, (0, 1)),
    }


class GateForms(unittest.TestCase):
    def check_form(self, gate):
        """Whether a value is a gate of tuples throughout, in normal form."""
        self.assertEqual([type(gate), type(gate[2])], [tuple, tuple])
        self.assertTrue(is_plain_fraction(gate[0]) and is_plain_fraction(gate[1]), gate)
        for span in gate[2]:
            self.assertIs(type(span), tuple)
            self.assertTrue(is_plain_fraction(span[0]) and is_plain_fraction(span[1]), gate)
        self.assertTrue(is_normal(plan_of(gate)), gate)


class ValidGates(GateForms):
    def test_constant(self):
        self.assertEqual(gates.MAX_SPANS, 6)

    def test_right_ones(self):
        for name, plan in RIGHT_PLANS.items():
            for kind in (tuple, list):
                self.assertIs(gates.is_gate(gate_of(plan, kind)), True, name)
                self.check_form(gates.normal_gate(gate_of(plan, kind)))

    def test_wrong_ones(self):
        for name, plan in WRONG_PLANS.items():
            for kind in (tuple, list):
                self.assertIs(gates.is_gate(gate_of(plan, kind)), False, name)
                self.check_refused(gate_of(plan, kind), name)

    def check_refused(self, gate, name):
        for function, call in calls(gate).items():
            with self.assertRaises(InvalidGate, msg=(name, function)) as caught:
                call()
            self.assertEqual((caught.exception.position, caught.exception.tag), (0, "InvalidGate"))
            self.assertIsInstance(caught.exception, PaceError)

    def test_arbitrary_ones(self):
        rng = source("arbitrary gates")
        found = {True: 0, False: 0}
        for _ in range(6000):
            numbers = [Fraction(rng.randint(-1, 9), rng.choice([1, 2])) for _ in range(8)]
            begins = numbers[:rng.randint(0, 3)]
            begins = sorted(begins) if rng.random() < 0.8 else begins
            spans = [(begin, rng.choice(numbers)) for begin in begins]
            plan = (mixed(rng), rng.choice(numbers), spans)
            found[is_plan(plan)] += 1
            self.assertIs(gates.is_gate(gate_of(plan)), is_plan(plan), plan)
        self.assertGreater(min(found.values()), 500)

    def test_many_right_ones(self):
        rng = source("right gates")
        for _ in range(1500):
            plan = some_plan(rng)
            self.assertTrue(is_plan(plan))
            self.assertIs(gates.is_gate(gate=gate_of(plan, rng.choice([tuple, list]))), True, plan)

    def test_right_ones_with_one_number_changed(self):
        rng = source("changed gates")
        for _ in range(1500):
            place, period, spans = some_plan(rng, many=rng.randint(1, 6))
            at, change = rng.randrange(len(spans)), rng.choice([-1, 1]) * period / rng.choice([1, 2, 5, 60])
            begin, length = spans[at]
            spans[at] = rng.choice([(begin + change, length), (begin, length + change), (begin, change)])
            self.assertIs(gates.is_gate(gate_of((place, period, spans))), is_plan((place, period, spans)))


class NormalForm(GateForms):
    def check(self, plan):
        for kind in (tuple, list):
            given = gate_of(plan, kind)
            result = gates.normal_gate(given)
            self.check_form(result)
            self.assertTrue(is_same_gate(plan_of(result), plan), (plan, result))
            self.assertEqual(given, gate_of(plan, kind))
            self.assertEqual(gates.normal_gate(result), result)

    def test_many(self):
        rng = source("normal form")
        for _ in range(1500):
            self.check(some_plan(rng))

    def test_same_shut_moments(self):
        rng = source("shut moments")
        for _ in range(50):
            plan = some_plan(rng)
            result = plan_of(gates.normal_gate(gate_of(plan)))
            for moment in telling_moments(rng, plan):
                self.assertEqual(is_shut(result, moment), is_shut(plan, moment))

    def test_each_number_of_repeated_spans(self):
        rng = source("repeated spans")
        for many in range(1, 7):
            for times in range(1, 6 // many + 1):
                for _ in range(40):
                    plan = some_plan(rng, many=many)
                    short = normal_plan(plan)
                    if len(short[2]) * times <= 6:
                        result = gates.normal_gate(gate_of(repeated(short, times)))
                        self.assertEqual(plan_of(result), short)

    def test_not_all_repeated(self):
        # Begins repeat but lengths do not, and the other way about.
        self.check((0, 4, [(0, 1), (1, 1), (2, 1), (3, HALF)]))
        self.check((0, 4, [(0, HALF), (1, HALF), (2, HALF), (3 + HALF / 2, HALF)]))
        self.check((0, 6, [(0, 1), (1, HALF), (2, 1), (3, HALF), (4, 1), (5, HALF)]))
        self.check((0, 6, [(0, 1), (1, HALF), (2, HALF), (3, 1), (4, HALF), (5, HALF)]))
        self.check((0, 6, [(k, 1) for k in range(6)]))

    def test_no_span(self):
        for place in ((0, 1), (-7, 3), (10 ** 11, 7)):
            for period in ((1, 1), (2, 3), (999999999999, 1)):
                self.assertEqual(gates.normal_gate((place, period, [])), (place, (1, 1), ()))

    def test_touching_spans_stay_apart(self):
        gate = gate_of((0, 4, [(0, 1), (1, 2)]))
        self.assertEqual(gates.normal_gate(gate), gate)
        self.assertEqual(gates.normal_gate(gate_of((0, 2, [(0, 1), (1, 1)]))), gate_of((0, 1, [(0, 1)])))

    def test_by_keyword(self):
        self.assertEqual(gates.normal_gate(gate=((0, 1), (2, 1), [])), ((0, 1), (1, 1), ()))


class DelayedGates(GateForms):
    def check(self, plan, delay):
        for kind in (tuple, list):
            given = gate_of(plan, kind)
            result = gates.delayed_gate(given, pair(delay))
            self.check_form(result)
            place, period, spans = plan
            moved = sorted([((begin + delay) % period, length) for begin, length in spans])
            self.assertTrue(is_same_gate(plan_of(result), (place, period, moved)), (plan, delay))
            self.assertEqual(given, gate_of(plan, kind))

    def test_many(self):
        rng = source("delayed gates")
        for _ in range(1000):
            plan = some_plan(rng)
            self.check(plan, mixed(rng))
            self.check(plan, -worth(pair(plan[1])) * rng.randint(0, 3))
            self.check(plan, Fraction(rng.randint(-10 ** 80, 10 ** 80), rng.randint(1, 10 ** 80)))

    def test_begins_moved_to_the_edges(self):
        rng = source("edges of delays")
        for _ in range(100):
            plan = some_plan(rng, many=rng.randint(1, 6))
            for begin, length in plan[2]:
                for delay in (-begin, plan[1] - begin, -begin - length, -begin - plan[1] / 10 ** 6):
                    self.check(plan, delay)

    def test_there_and_back(self):
        rng = source("there and back")
        for _ in range(300):
            gate, delay = gate_of(some_plan(rng)), mixed(rng)
            there = gates.delayed_gate(gate, pair(delay))
            self.assertEqual(gates.delayed_gate(there, pair(-delay)), gates.normal_gate(gate))

    def test_no_span(self):
        self.assertEqual(gates.delayed_gate(((5, 1), (7, 2), []), (1, 3)), ((5, 1), (1, 1), ()))

    def test_by_keyword(self):
        gate = ((0, 1), (2, 1), [((1, 1), (1, 1))])
        self.assertEqual(gates.delayed_gate(delay=(-3, 2), gate=gate), ((0, 1), (2, 1), (((3, 2), (1, 1)),)))
