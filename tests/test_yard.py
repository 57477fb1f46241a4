"""Yards: names, commands, batches, undo and redo, the cache, clones and comparisons."""

import copy
import unittest

from evenpace import yard as yards
from evenpace.errors import (
    CapacityExceeded, DuplicateName, EmptyHistory, InvalidCommand, InvalidGate, InvalidName, NotCrossed, NotFound,
    PaceError, SamePlace, TooWide, UnknownGate, UnknownRoad)
from evenpace.pieces import pieces
from evenpace.roads import Road
from evenpace.yard import Yard, is_name
from tests.gate_samples import WRONG, plain
from tests.piece_model import fine_road, wide_pair_road
from tests.samples import source

LISTED = (
    "apply", "apply_all", "undo", "redo", "names", "road", "pieces", "computations", "cached", "history", "clone",
    "__init__", "__eq__", "__len__", "__repr__")
PAIR = [plain(0), plain(1)]
HALF = ((1, 2), (0, 1))


def yard_with(*names):
    """A yard with simple roads of these names, made by one command each."""
    yard = Yard()
    for name in names:
        yard.apply(("road", name, PAIR))
    return yard


def state(yard):
    """All that can be seen of a yard without a change."""
    roads = {name: yard.road(name).gates() for name in yard.names()}
    return roads, yard.history(), yard.cached(), yard.computations(), len(yard)


class YardCase(unittest.TestCase):
    def check_error(self, call, error, **fields):
        with self.assertRaises(error) as caught:
            call()
        self.assertEqual(vars(caught.exception), {**fields, "tag": error.__name__})

    def check_fails(self, yard, command, error, **fields):
        """Check that a command fails alone, in a batch, and at the end of one, and changes nothing."""
        before = state(yard)
        kept = copy.deepcopy(command)
        self.check_error(lambda: yard.apply(command), error, **fields)
        self.check_error(lambda: yard.apply_all([command]), error, **fields)
        self.check_error(lambda: yard.apply_all((command, ("drop", "never"))), error, **fields)
        for name in yard.names():
            first = ("delay", name, (1, 3), (0, 1))
            self.check_error(lambda: yard.apply_all([first, command]), error, **fields)
        self.assertEqual(state(yard), before)
        self.assertEqual(command, kept)


class Names(unittest.TestCase):
    def test_names(self):
        for text in ("a", "z", "north", "abcdefgh", "zzzzzzzz", "road", "none"):
            self.assertIs(is_name(text), True, text)
        for text in ("", "abcdefghi", "North", "A", "a1", "1", "a b", " a", "a ", "a-b", "a\n", "\n", "_", "a" * 6000):
            self.assertIs(is_name(text), False, text)
        self.assertIs(is_name(text="a"), True)

    def test_constant(self):
        self.assertEqual(yards.MAX_ROADS, 6)


class Commands(YardCase):
    def test_road(self):
        yard = Yard()
        self.assertIsNone(yard.apply(("road", "b", [plain(1), plain(0)])))
        self.assertIsNone(yard.apply(command=("road", "a", ())))
        self.assertEqual(yard.names(), ["a", "b"])
        self.assertEqual(yard.road("b"), Road(PAIR))
        self.assertEqual(yard.road(name="a"), Road([]))
        self.assertIs(type(yard.road("a")), Road)

    def test_errors_of_road(self):
        yard = yard_with("a")
        nine = [plain(k) for k in range(9)]
        for name in ("", "A", "abcdefghi", "a1", "a b"):
            self.check_fails(yard, ("road", name, nine), InvalidName, name=name)
        self.check_fails(yard, ("road", "a", nine), DuplicateName, name="a")
        self.check_fails(yard, ("road", "b", nine), CapacityExceeded, capacity=8)
        self.check_fails(yard, ("road", "b", [plain(0), WRONG, plain(0)]), InvalidGate, position=1)
        self.check_fails(yard, ("road", "b", [plain(0), plain(1), plain(0)]), SamePlace, place=(0, 1))

    def test_seventh_road(self):
        yard = yard_with(*"abcdef")
        self.assertEqual(len(yard), 6)
        self.check_fails(yard, ("road", "g", [WRONG]), CapacityExceeded, capacity=6)
        self.check_fails(yard, ("join", "g", "x", "y"), CapacityExceeded, capacity=6)
        self.check_fails(yard, ("road", "f", []), DuplicateName, name="f")
        self.check_fails(yard, ("join", "G", "a", "b"), InvalidName, name="G")
        self.check_fails(yard, ("join", "a", "a", "b"), DuplicateName, name="a")
        yard.apply_all([("drop", "c"), ("road", "g", [])])
        self.assertEqual(yard.names(), ["a", "b", "d", "e", "f", "g"])

    def test_join(self):
        yard = yard_with("a", "b")
        yard.apply(("delay", "b", (1, 1), (0, 1)))
        yard.apply(("road", "c", [plain(5), ((1, 2), (1, 1), ())]))
        yard.apply(("join", "d", "c", "a"))
        self.assertEqual(yard.road("d"), Road([plain(0), plain(1), plain(5), ((1, 2), (1, 1), ())]))
        self.assertEqual(yard.road("a"), Road(PAIR))

    def test_errors_of_join(self):
        yard = yard_with("a", "b")
        yard.apply(("road", "big", [plain(k) for k in range(7)]))
        self.check_fails(yard, ("join", "x", "none", "nix"), UnknownRoad, name="none")
        self.check_fails(yard, ("join", "x", "a", "nix"), UnknownRoad, name="nix")
        self.check_fails(yard, ("join", "x", "x", "a"), UnknownRoad, name="x")
        self.check_fails(yard, ("join", "x", "a", "b"), SamePlace, place=(0, 1))
        self.check_fails(yard, ("join", "x", "a", "a"), SamePlace, place=(0, 1))
        self.check_fails(yard, ("join", "x", "a", "big"), CapacityExceeded, capacity=8)
        self.check_fails(yard, ("join", "", "none", "nix"), InvalidName, name="")

    def test_drop(self):
        yard = yard_with("a", "b")
        yard.apply(("drop", "a"))
        self.assertEqual(yard.names(), ["b"])
        self.check_fails(yard, ("drop", "a"), UnknownRoad, name="a")
        self.check_fails(yard, ("drop", "No such name!"), UnknownRoad, name="No such name!")

    def test_put(self):
        yard = yard_with("a")
        yard.apply(("put", "a", ((-1, 2), (4, 1), [((1, 1), (1, 1)), ((3, 1), (1, 1))])))
        self.assertEqual(yard.road("a"), Road([*PAIR, ((-1, 2), (2, 1), (((1, 1), (1, 1)),))]))
        self.check_fails(yard, ("put", "b", WRONG), UnknownRoad, name="b")
        self.check_fails(yard, ("put", "a", WRONG), InvalidGate, position=0)
        seven = ((9, 1), (9, 1), tuple([((k, 1), (1, 2)) for k in range(7)]))
        self.check_fails(yard, ("put", "a", seven), InvalidGate, position=0)
        self.check_fails(yard, ("road", "b", [plain(0), seven]), InvalidGate, position=1)
        self.check_fails(yard, ("put", "a", plain(1)), SamePlace, place=(1, 1))
        yard.apply(("road", "full", [plain(k) for k in range(8)]))
        self.check_fails(yard, ("put", "full", WRONG), CapacityExceeded, capacity=8)
        self.check_fails(yard, ("put", "full", plain(9)), CapacityExceeded, capacity=8)

    def test_strike(self):
        yard = yard_with("a")
        yard.apply(("strike", "a", (0, 1)))
        self.assertEqual(yard.road("a"), Road([plain(1)]))
        self.check_fails(yard, ("strike", "b", (0, 1)), UnknownRoad, name="b")
        self.check_fails(yard, ("strike", "a", (0, 1)), UnknownGate, place=(0, 1))

    def test_replace(self):
        yard = yard_with("a")
        gate = ((1, 1), (3, 1), (((0, 1), (1, 2)),))
        yard.apply(("replace", "a", gate))
        self.assertEqual(yard.road("a"), Road([plain(0), gate]))
        yard.apply(("road", "full", [plain(k) for k in range(8)]))
        yard.apply(("replace", "full", ((3, 1), (1, 1), ())))
        self.assertEqual(yard.road("full").gate_at((3, 1)), ((3, 1), (1, 1), ()))
        self.check_fails(yard, ("replace", "b", WRONG), UnknownRoad, name="b")
        self.check_fails(yard, ("replace", "a", ((7, 1), (-2, 1), ())), InvalidGate, position=0)
        self.check_fails(yard, ("replace", "a", plain(7)), UnknownGate, place=(7, 1))

    def test_delay(self):
        yard = yard_with("a")
        yard.apply(("delay", "a", (1, 2), (-1, 3)))
        self.assertEqual(yard.road("a"), Road(PAIR).later((1, 2), per_length=(-1, 3)))
        self.check_fails(yard, ("delay", "b", (1, 2), (0, 1)), UnknownRoad, name="b")

    def test_invalid_commands(self):
        yard = yard_with("a")
        sizes = {"road": 3, "join": 4, "drop": 2, "put": 3, "strike": 3, "replace": 3, "delay": 4}
        self.check_fails(yard, (), InvalidCommand, first=None)
        for first in ("", "Road", "undo", "roads", "drop ", "a"):
            for size in range(1, 5):
                self.check_fails(yard, (first, *["a"] * (size - 1)), InvalidCommand, first=first)
        for first, size in sizes.items():
            for wrong in {1, 2, 3, 4, 5, 6} - {size}:
                self.check_fails(yard, (first, *["a"] * (wrong - 1)), InvalidCommand, first=first)

    def test_errors_are_of_their_kinds(self):
        for command, base in ((("drop", "a"), NotFound), (("road", "", ()), PaceError), ((), PaceError)):
            with self.assertRaises(base):
                Yard().apply(command)

    def test_arguments_are_copied(self):
        spans = [((1, 1), (1, 1))]
        gates = [((0, 1), (2, 1), spans), plain(1)]
        yard = Yard()
        yard.apply(("road", "a", gates))
        spans.clear()
        gates.clear()
        self.assertEqual(yard.road("a"), Road(PAIR))

    def test_methods_stand_in_the_class(self):
        for name in LISTED:
            self.assertIn(name, vars(Yard))


class Batches(YardCase):
    def test_one_step(self):
        yard = Yard()
        commands = [("road", "a", PAIR), ("road", "b", [plain(5)]), ("join", "c", "a", "b"), ("drop", "a")]
        self.assertIsNone(yard.apply_all(commands=commands))
        self.assertEqual((yard.names(), yard.history()), (["b", "c"], (1, 0)))
        yard.undo()
        self.assertEqual((yard.names(), yard.history()), ([], (0, 1)))
        yard.redo()
        self.assertEqual((yard.names(), yard.history()), (["b", "c"], (1, 0)))

    def test_empty_batches_are_steps(self):
        for empty in ([], ()):
            yard = yard_with("a")
            yard.undo()
            yard.apply_all(empty)
            self.assertEqual((yard.history(), yard.names()), ((1, 0), []))
            self.check_error(yard.redo, EmptyHistory)
            yard.undo()
            self.assertEqual(yard.history(), (0, 1))

    def test_fault_at_the_end(self):
        yard = yard_with("a")
        yard.undo()
        before = state(yard)
        many = [("road", name, PAIR) for name in "abcdef"]
        self.check_error(lambda: yard.apply_all(many + [("road", "g", [])]), CapacityExceeded, capacity=6)
        self.check_error(lambda: yard.apply_all(many + [("drop", "x")]), UnknownRoad, name="x")
        self.check_error(lambda: yard.apply_all(many[:3] + [("strike", "a", (7, 1))]), UnknownGate, place=(7, 1))
        self.assertEqual(state(yard), before)
        yard.redo()
        self.assertEqual(yard.names(), ["a"])

    def test_invalid_commands_come_first(self):
        yard = yard_with("a")
        self.check_error(lambda: yard.apply_all([("drop", "x"), ("jump",), ()]), InvalidCommand, first="jump")
        self.check_error(lambda: yard.apply_all([("drop", "x"), (), ("jump",)]), InvalidCommand, first=None)
        late = [("road", "A", [WRONG]), ("drop", "a", "b")]
        self.check_error(lambda: yard.apply_all(late), InvalidCommand, first="drop")
        self.check_error(lambda: yard.apply_all([("drop", "x"), ("drop", "y")]), UnknownRoad, name="x")

    def test_later_commands_see_earlier_ones(self):
        yard = yard_with(*"abcdef")
        gates = [("put", "g", plain(4)), ("strike", "g", (4, 1))]
        yard.apply_all([("drop", "a"), ("road", "g", []), *gates, ("drop", "g")])
        self.assertEqual(yard.names(), ["b", "c", "d", "e", "f"])
        self.check_error(lambda: yard.apply_all([("drop", "b"), ("drop", "b")]), UnknownRoad, name="b")


class History(YardCase):
    def test_undo_and_redo(self):
        yard = Yard()
        self.check_error(yard.undo, EmptyHistory)
        self.check_error(yard.redo, EmptyHistory)
        yard.apply(("road", "a", PAIR))
        yard.apply(("delay", "a", (1, 2), (0, 1)))
        self.assertEqual(yard.history(), (2, 0))
        self.assertIsNone(yard.undo())
        self.assertEqual((yard.road("a"), yard.history()), (Road(PAIR), (1, 1)))
        yard.undo()
        self.assertEqual((yard.names(), yard.history()), ([], (0, 2)))
        self.check_error(yard.undo, EmptyHistory)
        self.assertIsNone(yard.redo())
        self.assertEqual(yard.road("a"), Road(PAIR))
        yard.redo()
        self.assertEqual(yard.road("a"), Road(PAIR).later((1, 2)))
        self.check_error(yard.redo, EmptyHistory)
        self.assertEqual(yard.history(), (2, 0))

    def test_another_step_ends_redo(self):
        yard = yard_with("a", "b")
        yard.undo()
        yard.apply(("drop", "a"))
        self.assertEqual((yard.names(), yard.history()), ([], (2, 0)))
        self.check_error(yard.redo, EmptyHistory)

    def test_failing_steps_do_not(self):
        yard = yard_with("a", "b")
        yard.undo()
        for command in ((), ("drop", "x"), ("road", "a", [])):
            with self.assertRaises((PaceError, NotFound)):
                yard.apply(command)
        self.assertEqual(yard.history(), (1, 1))
        yard.redo()
        self.assertEqual(yard.names(), ["a", "b"])

    def test_steps_that_change_nothing(self):
        yard = yard_with("a")
        yard.apply(("delay", "a", (0, 1), (0, 1)))
        yard.apply(("replace", "a", plain(0)))
        self.assertEqual(yard.history(), (3, 0))

    def test_error_class(self):
        with self.assertRaises(IndexError) as caught:
            Yard().undo()
        self.assertNotIsInstance(caught.exception, (PaceError, NotFound))


class Cache(YardCase):
    def test_computed_once(self):
        yard = yard_with("b", "a")
        self.assertEqual((yard.computations(), yard.cached()), (0, []))
        for _ in range(3):
            self.assertEqual(yard.pieces("b"), pieces(Road(PAIR)))
            self.assertEqual((yard.computations(), yard.cached()), (1, ["b"]))
        yard.pieces(name="a")
        self.assertEqual((yard.computations(), yard.cached()), (2, ["a", "b"]))

    def test_new_lists(self):
        yard = yard_with("a")
        first = yard.pieces("a")
        first[0][1].clear()
        first.clear()
        again = yard.pieces("a")
        self.assertEqual(again, pieces(Road(PAIR)))
        again[0][1].append("more")
        self.assertEqual(yard.pieces("a"), pieces(Road(PAIR)))
        yard.names().clear()
        yard.cached().clear()
        self.assertEqual((yard.names(), yard.cached(), yard.computations()), (["a"], ["a"], 1))

    def test_errors_do_not_count(self):
        yard = yard_with("a")
        yard.apply(("road", "one", [plain(0)]))
        yard.apply(("road", "wide", wide_pair_road(3, 1, 167).gates()))
        yard.apply(("road", "fine", fine_road(5, 10 ** 9, 10 ** 12).gates()))
        before = state(yard)
        self.check_error(lambda: yard.pieces("x"), UnknownRoad, name="x")
        self.check_error(lambda: yard.road("x"), UnknownRoad, name="x")
        self.check_error(lambda: yard.pieces("one"), NotCrossed, quantity=1)
        self.check_error(lambda: yard.pieces("wide"), TooWide, stage=2)
        self.check_error(lambda: yard.pieces("fine"), TooWide, stage=5)
        self.assertEqual(state(yard), before)

    def test_dropped_with_another_road(self):
        changes = [("put", "a", plain(7)), ("strike", "a", (0, 1)), ("delay", "a", *HALF), ("drop", "a")]
        changes += [("replace", "a", ((0, 1), (1, 1), ()))]
        for command in changes:
            yard = yard_with("a", "b")
            yard.pieces("a")
            yard.pieces("b")
            yard.apply(command)
            self.assertEqual((yard.cached(), yard.computations()), (["b"], 2))
            yard.undo()
            self.assertEqual((yard.cached(), yard.computations()), (["b"], 2))
            yard.pieces("a")
            self.assertEqual((yard.cached(), yard.computations()), (["a", "b"], 3))
            yard.redo()
            self.assertEqual(yard.cached(), ["b"])

    def test_kept_with_an_equal_road(self):
        yard = yard_with("a")
        yard.pieces("a")
        twice = ((0, 1), (4, 1), (((1, 1), (1, 1)), ((3, 1), (1, 1))))
        yard.apply(("replace", "a", twice))
        yard.apply(("delay", "a", (2, 1), (4, 1)))
        yard.apply_all([("drop", "a"), ("road", "a", PAIR)])
        yard.apply_all([("delay", "a", *HALF), ("delay", "a", (-1, 2), (0, 1))])
        yard.apply(("road", "b", PAIR))
        yard.apply_all([])
        self.assertEqual((yard.cached(), yard.computations()), (["a"], 1))
        for _ in range(6):
            yard.undo()
        self.assertEqual((yard.cached(), yard.history()), (["a"], (1, 6)))
        for _ in range(6):
            yard.redo()
        yard.pieces("a")
        self.assertEqual((yard.cached(), yard.computations()), (["a"], 1))

    def test_failing_batches_keep_it(self):
        yard = yard_with("a")
        yard.pieces("a")
        with self.assertRaises(UnknownRoad):
            yard.apply_all([("drop", "a"), ("drop", "a")])
        self.assertEqual((yard.cached(), yard.computations()), (["a"], 1))

    def test_undo_past_the_road(self):
        yard = yard_with("a")
        yard.pieces("a")
        yard.undo()
        self.assertEqual(yard.cached(), [])
        yard.redo()
        self.assertEqual((yard.cached(), yard.computations()), ([], 1))


class Clones(YardCase):
    def test_the_same_in_all(self):
        yard = yard_with("a", "b", "c")
        yard.undo()
        yard.pieces("a")
        clone = yard.clone()
        self.assertIs(type(clone), Yard)
        self.assertEqual(state(clone), state(yard))
        self.assertTrue(clone == yard)
        clone.redo()
        self.assertEqual(clone.names(), ["a", "b", "c"])
        self.assertEqual((clone.cached(), clone.computations()), (["a"], 1))

    def test_independent_afterwards(self):
        yard = yard_with("a", "b")
        yard.pieces("a")
        clone = yard.clone()
        before = state(yard)
        clone.apply(("drop", "a"))
        clone.pieces("b")
        clone.undo()
        clone.undo()
        clone.undo()
        self.assertEqual(state(yard), before)
        clone = yard.clone()
        before = state(clone)
        yard.undo()
        yard.apply_all([("drop", "a"), ("road", "z", [])])
        self.assertEqual(state(clone), before)
        clone.undo()
        self.assertEqual(clone.names(), ["a"])

    def test_undo_behind_a_clone(self):
        yard = yard_with("a", "b")
        clone = yard.clone()
        clone.undo()
        clone.undo()
        self.check_error(clone.undo, EmptyHistory)
        yard.undo()
        self.assertEqual((yard.names(), yard.history(), clone.history()), (["a"], (1, 1), (0, 2)))
        clone.redo()
        self.assertTrue(clone == yard)


class Comparisons(unittest.TestCase):
    def check(self, one, other, expected):
        self.assertIs(one == other, expected)
        self.assertIs(other == one, expected)
        self.assertIs(one != other, not expected)
        self.assertIs(other != one, not expected)

    def test_roads_by_name(self):
        self.check(Yard(), Yard(), True)
        self.check(yard_with("a", "b"), yard_with("b", "a"), True)
        self.check(yard_with("a"), yard_with("b"), False)
        self.check(yard_with("a"), yard_with("a", "b"), False)
        moved = yard_with("a")
        moved.apply(("delay", "a", *HALF))
        self.check(yard_with("a"), moved, False)
        moved.undo()
        moved.pieces("a")
        self.check(yard_with("a"), moved, True)

    def test_other_kinds(self):
        for yard in (Yard(), yard_with("a")):
            for other in (None, 0, "", {}, [], Road([]), {"a": Road(PAIR)}, Yard):
                self.check(yard, other, False)

    def test_length_and_repr(self):
        for many in range(7):
            yard = yard_with(*"abcdef"[:many])
            self.assertEqual((len(yard), repr(yard)), (many, f"Yard({many} roads)"))


class Model:
    """A yard in the words of [16] and [17], with lists of dicts of roads and no computation."""

    def __init__(self):
        self.states, self.at, self.known, self.count = [{}], 0, {}, 0

    def go(self, at):
        roads, before = self.states[at], self.states[self.at]
        self.known = {name: True for name in self.known if name in roads and roads[name] == before[name]}
        self.at = at

    def step(self, roads):
        self.states = self.states[:self.at + 1] + [roads]
        self.go(self.at + 1)

    def told(self):
        roads = {name: road.gates() for name, road in self.states[self.at].items()}
        history = (self.at, len(self.states) - 1 - self.at)
        return roads, history, sorted(self.known), self.count, len(roads)


class ManySteps(unittest.TestCase):
    def some_command(self, rng):
        name, one, other = rng.choice("abcdefgh"), rng.choice("abcdefgh"), rng.choice("abcdefgh")
        gates = rng.sample([plain(k) for k in range(5)], rng.randint(0, 3))
        return rng.choice([
            ("road", name, gates), ("road", name, gates), ("join", name, one, other), ("drop", name),
            ("put", name, plain(rng.randint(0, 5))), ("strike", name, (rng.randint(0, 5), 1)),
            ("replace", name, ((rng.randint(0, 4), 1), (3, 1), (((0, 1), (1, 1)),))), ("delay", name, *HALF)])

    def applied(self, roads, command):
        """The roads after a command, or None if it fails."""
        verb, name, *rest = command
        roads = dict(roads)
        if verb in ("road", "join"):
            if name in roads or len(roads) == 6:
                return None
            if verb == "road":
                roads[name] = Road(rest[0])
                return roads
            one, other = roads.get(rest[0]), roads.get(rest[1])
            if one is None or other is None or set(one.places()) & set(other.places()) or len(one) + len(other) > 8:
                return None
            roads[name] = Road(one.gates() + other.gates())
            return roads
        if name not in roads:
            return None
        road = roads.pop(name)
        place = {"put": rest[0][0], "replace": rest[0][0], "strike": rest[0]}.get(verb) if rest else None
        if verb in ("put", "replace", "strike") and (place in road.places()) == (verb == "put"):
            return None
        if verb == "put" and len(road) == 8:
            return None
        others = [gate for gate in road.gates() if gate[0] != place]
        changed = {"put": others + rest[:1], "replace": others + rest[:1], "strike": others}.get(verb)
        if verb == "delay":
            roads[name] = road.later(*rest[:1], per_length=rest[1])
        elif changed is not None:
            roads[name] = Road(changed)
        return roads

    def play(self, rng, yard, model):
        what = rng.random()
        if what < 0.15 and model.at > 0:
            yard.undo()
            model.go(model.at - 1)
        elif what < 0.3 and model.at < len(model.states) - 1:
            yard.redo()
            model.go(model.at + 1)
        elif what < 0.5:
            for name in yard.names()[:2]:
                if len(yard.road(name).barring()) in (2, 3):
                    yard.pieces(name)
                    model.count += name not in model.known
                    model.known[name] = True
        else:
            commands = [self.some_command(rng) for _ in range(rng.choice([1, 1, 1, 2, 3]))]
            roads = model.states[model.at]
            for command in commands:
                roads = self.applied(roads, command) if roads is not None else None
            if roads is None:
                with self.assertRaises((PaceError, NotFound)):
                    yard.apply_all(commands)
            else:
                yard.apply_all(commands)
                model.step(roads)

    def test_many(self):
        rng = source("many steps")
        for _ in range(12):
            yard, model = Yard(), Model()
            for _ in range(120):
                self.play(rng, yard, model)
                self.assertEqual(state(yard), model.told())
                if rng.random() < 0.05:
                    yard = yard.clone()
