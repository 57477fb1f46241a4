"""The names and arguments of the interface in DOC.md, and rules that hold over the whole program."""

import copy
import importlib
import inspect
import unittest

from evenpace.roads import Road
from evenpace.yard import Yard
from tests.gate_samples import plain

# Each function with its arguments; those behind a star are keyword-only.
FUNCTIONS = {
    "rationals": "fraction(num, den=1); add(one, other); subtract(one, other); multiply(one, other); "
                 "divide(one, other); is_less(one, other); total(row, *, start=(0, 1)); floor_of(one); "
                 "ceiling_of(one); remainder(one, period); common_divisor(one, other); format_fraction(one); "
                 "parse_fraction(text)",
    "lattices": "congruence_basis(values); congruence_solution(values, target); floor_sum(count, slope, offset)",
    "gates": "is_gate(gate); normal_gate(gate); is_open(gate, moment); window(gate, number); window_at(gate, moment); "
             "next_open(gate, moment); delayed_gate(gate, delay)",
    "steps": "steps(road); turns(road); is_step(road, pair); in_cell(road, walker)",
    "pieces": "pieces(road); piece_at(road, walker); share(road); passage(road, place)",
    "starts": "open_starts(road, slowness); first_start(road, slowness, *, since=(0, 1)); "
              "count_starts(road, slowness, number); count_pieces(road, starts, slownesses)",
    "shadows": "shadow(road, place); tightest(road); is_tight(road); exception(road, other); is_inside(road, other); "
               "needless(road)",
    "closures": "closure(road); check_closure(road, certificate)",
    "lateness": "lateness(road, other); check_lateness(road, other, answer)",
    "yard": "is_name(text)",
    "texts": "parse_gate(text); parse_road(text); format_yard(yard); parse_yard(text)",
}
METHODS = {
    ("roads", "Road"): "__init__(self, gates); gates(self); barring(self); places(self); gate_at(self, place); "
                       "moments(self, walker); passes(self, walker); first_shut(self, walker); put(self, gate); "
                       "without(self, place); joined(self, other); later(self, delay, *, per_length=(0, 1)); "
                       "scaled(self, factor)",
    ("yard", "Yard"): "__init__(self); apply(self, command); apply_all(self, commands); undo(self); redo(self); "
                      "names(self); road(self, name); pieces(self, name); computations(self); cached(self); "
                      "history(self); clone(self)",
    ("desk", "Desk"): "__init__(self, *, shared=None); yard(self); ask(self, line)",
}
CONSTANTS = {
    "rationals": {"ZERO": (0, 1), "ONE": (1, 1)}, "gates": {"MAX_SPANS": 6}, "roads": {"MAX_GATES": 8},
    "rows": {"MAX_ROWS": 500}, "starts": {"MAX_INTERVALS": 1000}, "yard": {"MAX_ROADS": 6}}


def module(name):
    return importlib.import_module(f"evenpace.{name}")


class Names(unittest.TestCase):
    def check(self, place, told):
        for signature in told.split("; "):
            name = signature.partition("(")[0]
            with self.subTest(name=name):
                self.assertIn(name, vars(place))
                self.assertEqual(name + str(inspect.signature(vars(place)[name])), signature)

    def test_functions(self):
        for name, told in FUNCTIONS.items():
            self.check(module(name), told)

    def test_methods(self):
        for (name, owner), told in METHODS.items():
            self.check(vars(module(name))[owner], told)

    def test_constants(self):
        for name, told in CONSTANTS.items():
            for constant, value in told.items():
                self.assertEqual(vars(module(name))[constant], value)


class Lists(unittest.TestCase):
    """A tuple may be passed for a list and the other way about, and nothing that is passed is changed."""

    def test_tuples_for_lists(self):
        gates = [plain(0), ((1, 1), (2, 1), [((1, 1), (1, 1))])]
        commands = [("road", "a", gates), ("put", "a", ((5, 1), (2, 1), [((1, 1), (1, 1))]))]
        before = copy.deepcopy(commands)
        one, other = Yard(), Yard()
        one.apply_all(commands)
        other.apply_all(tuple([("road", "a", tuple(gates)), ("put", "a", plain(5))]))
        self.assertTrue(one == other)
        self.assertEqual(one.road("a"), Road((plain(0), plain(1), plain(5))))
        self.assertEqual(commands, before)
        self.assertEqual(one.pieces("a"), other.pieces("a"))
