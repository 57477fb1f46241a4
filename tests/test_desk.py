"""Desks: each command and each question, their errors, and lines that are neither."""

import unittest

from evenpace.closures import closure
from evenpace.desk import Desk
from evenpace.errors import Passable
from evenpace.pieces import pieces, share
from evenpace.rationals import format_fraction
from evenpace.roads import Road
from evenpace.shadows import is_inside, needless, tightest
from evenpace.starts import count_starts, first_start
from evenpace.yard import Yard
from tests.gate_samples import plain
from tests.piece_model import calm_road, fine_road, narrow_roads, wide_pair_road
from tests.samples import pair, small, source
from tests.test_texts import RIGHT_GATES, WRONG_GATES

SIMPLE = "road a 0 every 2 1+1; 1 every 2 1+1"
POINT = "0 every 1 0+1"


def written(road):
    """The gates of a road as a line has them."""
    return "; ".join(str(road).splitlines()) or "none"


def desk_with(**roads):
    """A desk whose yard has these roads."""
    desk = Desk()
    for name, road in roads.items():
        desk.yard().apply(("road", name, road.gates()))
    return desk


class DeskCase(unittest.TestCase):
    def check(self, desk, *told):
        """Check lines and their answers, one after the other."""
        for line, answer in told:
            self.assertEqual(desk.ask(line), answer, line)


class Yards(DeskCase):
    def test_a_new_one(self):
        one, other = Desk(), Desk()
        self.assertIs(type(one.yard()), Yard)
        self.assertIs(one.yard(), one.yard())
        one.ask(SIMPLE)
        self.assertEqual((one.yard().names(), other.yard().names()), (["a"], []))

    def test_the_given_one_itself(self):
        for yard in (Yard(), desk_with(b=Road([plain(0)])).yard()):
            desk = Desk(shared=yard)
            self.assertIs(desk.yard(), yard)
            self.assertEqual(desk.ask(line=SIMPLE), "ok")
            self.assertIn("a", yard.names())
            yard.apply(("drop", "a"))
            self.assertEqual(desk.ask("drop a"), "error UnknownRoad")
        self.assertIs(type(Desk(shared=None).yard()), Yard)

    def test_two_desks_at_one_yard(self):
        yard = Yard()
        one, other = Desk(shared=yard), Desk(shared=yard)
        self.check(one, (SIMPLE, "ok"))
        self.check(other, ("names", "a"), ("undo", "ok"), ("names", "none"))
        self.check(one, ("names", "none"), ("redo", "ok"))

    def test_shared_is_keyword_only(self):
        with self.assertRaises(TypeError):
            Desk(Yard())

    def test_methods_stand_in_the_class(self):
        for name in ("__init__", "yard", "ask"):
            self.assertIn(name, vars(Desk))


class Commands(DeskCase):
    def test_road(self):
        desk = Desk()
        self.check(desk, (SIMPLE, "ok"), ("road b none", "ok"), ("road c 1 every 2 1+1; 0 every 1; -1 every 1", "ok"))
        yard = desk.yard()
        self.assertEqual([yard.road("a"), yard.road("b")], [Road([plain(0), plain(1)]), Road([])])
        self.assertEqual(yard.road("c"), Road([plain(1), ((0, 1), (1, 1), ()), ((-1, 1), (1, 1), ())]))
        self.assertEqual(yard.history(), (3, 0))

    def test_errors_of_road(self):
        desk = Desk()
        nine = "; ".join([f"{k} every 2 1+1" for k in range(9)])
        self.check(
            desk, (SIMPLE, "ok"), (SIMPLE, "error DuplicateName"), ("road A none", "error InvalidName"),
            ("road abcdefghi none", "error InvalidName"), ("road b; none", "error InvalidName"),
            ("road b " + nine, "error CapacityExceeded"), ("road b 0 every 1; 0 every 2 1+1", "error SamePlace"))
        for name in "bcdef":
            self.check(desk, (f"road {name} none", "ok"))
        self.check(desk, ("road g none", "error CapacityExceeded"), ("join g x y", "error CapacityExceeded"))
        self.assertEqual(desk.yard().history(), (6, 0))

    def test_other_commands(self):
        desk = Desk()
        self.check(
            desk, (SIMPLE, "ok"), ("put a 5/2 every 1 0+1/2", "ok"), ("replace a 0 every 3 1+1", "ok"),
            ("strike a 1", "ok"), ("delay a 1/2 -1/3", "ok"), ("road b 9 every 1", "ok"), ("join c b a", "ok"),
            ("drop b", "ok"), ("names", "a, c"))
        expected = Road([((0, 1), (3, 1), (((1, 1), (1, 1)),)), ((5, 2), (1, 1), (((0, 1), (1, 2)),))])
        expected = expected.later((1, 2), per_length=(-1, 3))
        self.assertEqual(desk.yard().road("a"), expected)
        self.assertEqual(desk.yard().road("c"), expected.put(((9, 1), (1, 1), ())))

    def test_errors_of_other_commands(self):
        desk = Desk()
        eight = "; ".join([f"{k} every 2 1+1" for k in range(8)])
        self.check(
            desk, (SIMPLE, "ok"), ("road full " + eight, "ok"),
            ("put b 5 every 1", "error UnknownRoad"), ("put a 1 every 1", "error SamePlace"),
            ("put full 1 every 1", "error CapacityExceeded"), ("put full 9 every 1", "error CapacityExceeded"),
            ("replace b 5 every 1", "error UnknownRoad"), ("replace a 5 every 1", "error UnknownGate"),
            ("strike b 0", "error UnknownRoad"), ("strike a 5", "error UnknownGate"),
            ("delay b 0 0", "error UnknownRoad"), ("drop b", "error UnknownRoad"), ("drop B!", "error UnknownRoad"),
            ("join a x y", "error DuplicateName"), ("join A! x y", "error InvalidName"),
            ("join b x a", "error UnknownRoad"), ("join b a x", "error UnknownRoad"),
            ("join b a a", "error SamePlace"), ("join b a full", "error CapacityExceeded"))
        self.assertEqual(desk.yard().history(), (2, 0))

    def test_undo_and_redo(self):
        desk = Desk()
        self.check(
            desk, ("undo", "error EmptyHistory"), ("redo", "error EmptyHistory"), (SIMPLE, "ok"), ("undo", "ok"),
            ("undo", "error EmptyHistory"), ("names", "none"), ("redo", "ok"), ("redo", "error EmptyHistory"),
            ("names", "a"), ("undo", "ok"), ("road b none", "ok"), ("redo", "error EmptyHistory"), ("names", "b"))

    def test_gates_of_all_kinds(self):
        for text in RIGHT_GATES:
            desk = Desk()
            self.check(desk, ("road a " + text, "ok"), ("replace a " + text, "ok"), ("road b none", "ok"),
                       ("put b " + text, "ok"))
            self.assertEqual([str(desk.yard().road(name)) for name in "ab"], [text + "\n"] * 2)

    def test_gates_need_not_be_in_order(self):
        rng = source("gates of lines")
        for _ in range(20):
            road = calm_road(rng, rng.randint(2, 8))
            texts = str(road).splitlines()
            desk = Desk()
            self.check(desk, ("road a " + "; ".join(rng.sample(texts, len(texts))), "ok"))
            self.assertEqual(desk.yard().road("a"), road)


class Questions(DeskCase):
    def test_names(self):
        desk = Desk()
        self.check(desk, ("names", "none"), ("road b none", "ok"), ("road ab none", "ok"), ("names", "ab, b"))

    def test_passes(self):
        desk = Desk()
        self.check(
            desk, (SIMPLE, "ok"), ("passes a 1/2 1", "no 1"), ("passes a 1/2 1/2", "yes"), ("passes a 3/2 0", "no 0"),
            ("passes a -1 -2", "yes"), ("passes b 0 0", "error UnknownRoad"), ("road one -1/2 every 2 1+1", "ok"),
            ("passes one 3/2 0", "no -1/2"), ("road none none", "ok"), ("passes none 3/2 0", "yes"))

    def test_all_others(self):
        rng = source("questions")
        for road in narrow_roads(rng, 42, 0.2):
            other = rng.choice([road.later((1, 7)), Road([road.gates()[0]]), Road([])])
            desk = desk_with(a=road, b=other)
            slowness, since = pair(small(rng)), pair(small(rng))
            self.check(desk, ("share a", format_fraction(share(road))), ("pieces a", str(len(pieces(road)))))
            start = first_start(road, slowness, since=since)
            told = "never" if start is None else format_fraction(start)
            self.check(desk, (f"first a {format_fraction(slowness)} {format_fraction(since)}", told))
            number = rng.choice([0, 1, 17, 10 ** 18 - 1])
            told = str(count_starts(road, slowness, number))
            self.check(desk, (f"count a {format_fraction(slowness)} {number}", told))
            self.check(desk, ("inside a b", "yes" if is_inside(road, other) else "no"), ("inside a a", "yes"))
            self.check_needless(desk, road)
            gates = tightest(road)
            told = "nobody" if gates is None else ", ".join([gate_text(gate) for gate in gates])
            self.check(desk, ("tight a", told))

    def check_needless(self, desk, road):
        try:
            told = ", ".join([format_fraction(place) for place in needless(road)]) or "none"
        except ValueError:
            told = "error TooWide"
        self.check(desk, ("needless a", told))

    def test_answers_as_written(self):
        desk = Desk()
        self.check(
            desk, (SIMPLE, "ok"), ("share a", "1/4"), ("pieces a", "1"), ("first a 1/2 1", "2"), ("first a 2 0", "0"),
            ("count a 1/2 10", "5"), ("count a 1/2 0", "0"), ("count a 0 999999999999999999", "999999999999999999"),
            ("needless a", "none"), ("put a 1/2 every 1", "ok"), ("put a -1/3 every 1", "ok"),
            ("needless a", "-1/3, 1/2"), ("strike a -1/3", "ok"), ("strike a 1/2", "ok"),
            ("tight a", "0 every 2 1+1, 1 every 2 1+1"), ("road b 0 every 2 1+1", "ok"), ("inside a b", "yes"),
            ("delay b 1/2 0", "ok"), ("inside a b", "no"))

    def test_nobody_and_never(self):
        desk = Desk()
        shut = "road a 0 every 1 0+1; 1 every 1 1/4+1; 2 every 1 0+1"
        self.check(
            desk, (shut, "ok"), ("tight a", "nobody"), ("first a 0 0", "never"), ("share a", "0"), ("pieces a", "0"),
            ("count a 0 100", "0"), ("road b 0 every 1", "ok"), ("inside a b", "yes"))
        with self.assertRaises(Passable):
            closure(desk.yard().road("a").without((1, 1)))

    def test_pieces_are_cached(self):
        desk = Desk()
        self.check(desk, (SIMPLE, "ok"), ("pieces a", "1"), ("pieces a", "1"))
        self.assertEqual((desk.yard().cached(), desk.yard().computations()), (["a"], 1))
        self.check(desk, ("delay a 1/2 0", "ok"), ("undo", "ok"), ("pieces a", "1"))
        self.assertEqual(desk.yard().computations(), 2)

    def test_roads_that_are_not_crossed(self):
        desk = Desk()
        self.check(desk, ("road a none", "ok"), ("road b 0 every 1 0+1", "ok"), (SIMPLE.replace(" a ", " c "), "ok"))
        for name in "ab":
            for line in ("share {}", "pieces {}", "first {} 0 0", "count {} 0 5", "inside {} c", "inside {} {}",
                         "needless {}", "tight {}"):
                self.check(desk, (line.format(name, name), "error NotCrossed"))
            self.check(desk, (f"inside c {name}", "yes" if name == "a" else "no"))
        self.assertEqual((desk.yard().cached(), desk.yard().computations()), ([], 0))

    def test_roads_that_are_not_there(self):
        desk = Desk()
        self.check(desk, (SIMPLE, "ok"), ("road b none", "ok"))
        for line in ("share x", "pieces x", "first x 0 0", "count x 0 5", "inside x a", "inside a x", "inside b x",
                     "inside x b", "needless x", "tight x", "passes x 0 0", "share A-B", "pieces names"):
            self.check(desk, (line, "error UnknownRoad"))

    def test_roads_that_are_too_wide(self):
        for road in (wide_pair_road(3, 1, 167), fine_road(3, 501), fine_road(6, 10 ** 9, 10 ** 12)):
            desk = desk_with(a=road, b=Road([]))
            for line in ("share a", "pieces a", "first a 0 0", "count a 0 5", "inside a b", "needless a", "tight a"):
                self.check(desk, (line, "error TooWide"))
            self.assertEqual((desk.yard().cached(), desk.yard().computations()), ([], 0))

    def test_too_many_intervals(self):
        desk = Desk()
        self.check(
            desk, (f"road a {POINT}; 1 every 1001 1/3+1/3", "ok"), ("first a 0 0", "error TooMany"),
            ("count a 0 5", "error TooMany"), ("pieces a", "1"))


class OtherLines(DeskCase):
    def check_what(self, *lines):
        desk = Desk()
        self.check(desk, (SIMPLE, "ok"), ("road b none", "ok"), ("undo", "ok"))
        yard = desk.yard()
        for line in lines:
            self.check(desk, (line, "what"))
        self.assertEqual((yard.names(), yard.history(), yard.cached()), (["a"], (1, 1), []))

    def test_other_words(self):
        self.check_what(
            "", " ", "  ", "what", "Names", "names;", "NAMES", "add a none", "roads a none", "help", "quit", "a",
            "open_starts a", "closure a", "apply", "name", "clone", "Undo", "none", "0 every 1", "starts a 0")

    def test_other_numbers_of_words(self):
        self.check_what(
            "undo a", "redo 1", "names a", "road", "road a", "road c", "put", "put a", "replace", "replace a", "drop",
            "drop a a", "strike", "strike a", "strike a 0 0", "delay", "delay a", "delay a 0", "delay a 0 0 0", "join",
            "join a", "join a b", "join a b c d", "passes a", "passes a 0", "passes a 0 0 0", "share", "share a a",
            "pieces", "pieces a a", "first a", "first a 0", "first a 0 0 0", "count a", "count a 0", "count a 0 1 2",
            "inside a", "inside a a a", "needless", "needless a a", "tight", "tight a a", "passes", "first", "count",
            "inside")

    def test_empty_words(self):
        for line in ("undo", "names", "drop a", "share a", "strike a 0", "delay a 0 0", "join c a a", "passes a 0 0",
                     "count a 0 5", "inside a a", "road c none", "put a 5 every 1", SIMPLE):
            spaces = [at for at, sign in enumerate(line) if sign == " "]
            self.check_what(" " + line, line + " ", *[line[:at] + " " + line[at:] for at in spaces])

    def test_words_that_are_no_fractions(self):
        wrong = ("x", "1/1", "2/4", "-0", "+1", "01", "0.5", "1/", "/2", "1/0", "-", "--1", "1,")
        wrong += ("1" * 31, "1/" + "3" * 31)
        for word in wrong:
            self.check_what(
                f"strike a {word}", f"delay a {word} 0", f"delay a 0 {word}", f"passes a {word} 0",
                f"passes a 0 {word}", f"first a {word} 0", f"first a 0 {word}", f"count a {word} 5")
            # Also where there is no such road.
            self.check_what(f"strike x {word}", f"delay x {word} 0", f"passes x 0 {word}", f"first x 0 {word}")
        right = ("9" * 30, "-" + "9" * 30, "1/" + "9" * 30)
        for word in right:
            self.check(Desk(), (f"strike a {word}", "error UnknownRoad"), (f"passes a {word} 0", "error UnknownRoad"))

    def test_words_that_are_no_numbers(self):
        for word in ("-1", "x", "1/2", "01", "00", "+1", "1" * 19, "1" + "0" * 18, "1.0", "-0", "9" * 30, "1e5"):
            self.check_what(f"count a 0 {word}", f"count x 0 {word}")
        desk = Desk()
        self.check(desk, (SIMPLE, "ok"), ("count a 0 0", "0"), ("count a 0 " + "9" * 18, "9" * 18))

    def test_words_that_are_no_gates(self):
        for text in WRONG_GATES:
            if "\n" not in text and "\t" not in text:
                self.check_what(f"put a {text}", f"replace a {text}", f"road c {text}", f"road c 7 every 1; {text}")
                self.check_what(f"put x {text}", f"replace x {text}", f"road A {text}", f"road c {text}; 7 every 1")

    def test_lists_of_gates(self):
        self.check_what(
            "road c none; 0 every 1", "road c 0 every 1; none", "road c none none", "road c 0 every 1;1 every 1",
            "road c 0 every 1 ; 1 every 1", "road c 0 every 1; ", "road c 0 every 1;", "road c ; 0 every 1",
            "road c 0 every 1, 1 every 1", "road c 0 every 1; ; 1 every 1", "put a none", "replace a none",
            "put a 5 every 1; 6 every 1", "road c None", "road c nobody")

    def test_what_comes_ahead_of_errors(self):
        nine = "; ".join([f"{k} every 2 1+1" for k in range(9)])
        self.check_what("road A wrong", f"road a {nine}; wrong", "drop x y", "join A b", "count x 0 -1")


def gate_text(gate):
    """The text of a gate with any number of spans, in the words of [18]."""
    place, period, spans = gate
    words = [format_fraction(place), "every", format_fraction(period)]
    return " ".join(words + [f"{format_fraction(begin)}+{format_fraction(length)}" for begin, length in spans])


class Written(DeskCase):
    def test_roads_as_lines(self):
        rng = source("roads as lines")
        for road in narrow_roads(rng, 14):
            desk = Desk()
            self.check(desk, ("road a " + written(road), "ok"), ("road b " + written(Road([])), "ok"))
            self.assertEqual(desk.yard().road("a"), road)

    def test_shadows_with_many_spans(self):
        desk = Desk()
        self.check(desk, ("road a 0 every 11 9+2; 1 every 1 0+1; 2 every 1 0+1", "ok"))
        answer = desk.ask("tight a").split(", ")
        self.assertEqual(answer[0], "0 every 11 " + " ".join([f"{k}+1" for k in range(9)]) + " 9+2")
        self.assertEqual(len(answer), 3)
