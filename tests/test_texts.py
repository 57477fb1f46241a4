"""The texts of gates, roads and yards, and texts that are none."""

import unittest

from evenpace.errors import ParseError
from evenpace.gates import normal_gate
from evenpace.roads import Road
from evenpace.texts import format_yard, parse_gate, parse_road, parse_yard
from evenpace.yard import Yard
from tests.gate_samples import gate_of, plain, some_gates, some_plan
from tests.samples import source

NINES = "9" * 30
ROW = "{} every 2 1+1\n"
# Each one is wrong as the text of a gate.
WRONG_GATES = (
    "", " ", "0", "0 every", "0 every ", "every 2 1+1", "0 each 2 1+1", "0 Every 2 1+1", "0 2 1+1",
    " 0 every 2 1+1", "0 every 2 1+1 ", "0  every 2 1+1", "0 every  2 1+1", "0 every 2  1+1", "0 every 2\t1+1",
    "0 every 2 1+1\n", "\n0 every 2 1+1", "0 every 2 1+1;", "0 every 2 1 +1", "0 every 2 1+ 1", "0 every 2 1-1",
    "0 every 2 1", "0 every 2 +1", "0 every 2 1+", "0 every 2 1+1+1", "0 every 2 1++1", "0 every 2 1+-1",
    "0 every 2 -1+1", "0 every -2 1+1", "0 every 0", "0 every 0 0+1", "0 every -1", "0 every 2 1+0", "0 every 2 2+1",
    "0 every 2 1+3", "0 every 3 0+2 1+1", "0 every 3 1+1 0+1", "0 every 3 0+1 0+1", "0 every 3 1+1 2+3",
    "00 every 2 1+1", "-0 every 2 1+1", "+1 every 2 1+1", "1/1 every 2 1+1", "2/4 every 2 1+1", "0/3 every 2 1+1",
    "1/0 every 2 1+1", "1/-2 every 2 1+1", "0.5 every 2 1+1", "0 every 02 1+1", "0 every 2/1 1+1", "0 every 2 01+1",
    "0 every 2 2/2+1", "0 every 2 1+1/1", "0 every 2 1+01", "x every 2 1+1", "0 every x 1+1", "0 every 2 x+1",
    "1" + NINES + " every 2 1+1", "0 every 1" + NINES, "0 every 2 1/1" + NINES + "+1", "0 every 2 1+1/1" + NINES,
    # Not in normal form: a shorter period, and no span with another period than 1.
    "0 every 2 0+1/2 1+1/2", "0 every 4 1+1 3+1", "0 every 2", "0 every 1/2", "0 every 6 0+1 2+1 4+1",
    # Seven spans.
    "0 every 9 0+1/2 1+1 2+1 3+1 4+1 5+1 6+1")
# Each one is the text of a gate.
RIGHT_GATES = (
    "0 every 1", "-1/2 every 1", "0 every 2 1+1", "0 every 2 0+2", "0 every 2 1+2", "1/2 every 2 0+1/3 1+1",
    "0 every 9 0+1/2 1+1 2+1 3+1 4+1 5+1", "0 every 3 0+1 1+1", "-5/3 every 22/7 1/7+1/2", "0 every 3 1+1 2+2",
    NINES + " every 2 1+1", "-" + NINES + "/2 every 1", "0 every " + NINES + " 1+1", "0 every 2 1/" + NINES + "+1")


class TextCase(unittest.TestCase):
    def check_error(self, call, position):
        with self.assertRaises(ParseError) as caught:
            call()
        self.assertEqual(vars(caught.exception), {"position": position, "tag": "ParseError"})

    def check_wrong(self, parse, text, position):
        with self.subTest(text=text):
            self.check_error(lambda: parse(text), position)


class Gates(TextCase):
    def test_right(self):
        for text in RIGHT_GATES:
            gate = parse_gate(text)
            self.assertEqual(str(Road([gate])), text + "\n")
            self.assertEqual(gate, normal_gate(gate))
            self.assertEqual([type(gate), type(gate[2])], [tuple, tuple])

    def test_wrong(self):
        for text in WRONG_GATES:
            self.check_wrong(parse_gate, text, 0)

    def test_there_and_back(self):
        rng = source("texts of gates")
        for _ in range(200):
            gate = normal_gate(gate_of(some_plan(rng)))
            self.assertEqual(parse_gate(str(Road([gate])).removesuffix("\n")), gate)

    def test_changed_a_little(self):
        # A changed text is either the text of another gate or none at all.
        rng = source("changed texts")
        wrong = 0
        for _ in range(600):
            text = rng.choice(RIGHT_GATES[:10])
            at, sign = rng.randrange(len(text)), rng.choice(" 0123456789/+-every")
            before, after = text[:at], text[at + 1:]
            changed = rng.choice([before + after, before + sign + text[at:], before + sign + after])
            try:
                gate = parse_gate(changed)
            except ParseError:
                wrong += 1
            else:
                self.assertEqual(str(Road([gate])), changed + "\n")
        self.assertGreater(wrong, 200)

    def test_by_keyword(self):
        self.assertEqual(parse_gate(text="0 every 1"), ((0, 1), (1, 1), ()))


class Roads(TextCase):
    def test_there_and_back(self):
        rng = source("texts of whole roads")
        for _ in range(60):
            road = Road(some_gates(rng, rng.randint(0, 8)))
            result = parse_road(text=str(road))
            self.assertIs(type(result), Road)
            self.assertEqual(result, road)

    def test_empty(self):
        self.assertEqual(parse_road(""), Road([]))
        self.check_wrong(parse_road, "\n", 0)
        self.check_wrong(parse_road, "\n\n", 0)

    def test_wrong_rows(self):
        rows = [ROW.format(k) for k in range(8)]
        for text in WRONG_GATES:
            # Two rows where one is expected: the first one that is wrong counts.
            if "\n" not in text:
                for at in (0, 3, 7):
                    self.check_wrong(parse_road, "".join(rows[:at]) + text + "\n" + "".join(rows[at:7]), at)
        for at in range(1, 8):
            self.check_wrong(parse_road, "".join(rows[:at]) + "\n" + "".join(rows[at:7]), at)

    def test_order_of_places(self):
        self.check_wrong(parse_road, ROW.format(0) + ROW.format(0), 1)
        self.check_wrong(parse_road, ROW.format(0) + "0 every 1\n", 1)
        self.check_wrong(parse_road, ROW.format(0) + ROW.format(2) + ROW.format(1) + "wrong\n", 2)
        self.check_wrong(parse_road, ROW.format(0) + "wrong\n" + ROW.format(-1), 1)
        self.check_wrong(parse_road, ROW.format("1/2") + ROW.format("1/3"), 1)
        self.assertEqual(parse_road(ROW.format("-1/2") + ROW.format("-1/3")).places(), [(-1, 2), (-1, 3)])

    def test_ninth_row(self):
        rows = [ROW.format(k) for k in range(12)]
        self.assertEqual(len(parse_road("".join(rows[:8]))), 8)
        self.check_wrong(parse_road, "".join(rows[:9]), 8)
        self.check_wrong(parse_road, "".join(rows), 8)
        self.check_wrong(parse_road, "".join(rows[:8]) + "wrong\n", 8)
        self.check_wrong(parse_road, "".join(rows[:8]) + "wrong", 8)
        self.check_wrong(parse_road, "".join(rows[:7]) + "wrong\n" + rows[7] + rows[8], 7)

    def test_missing_line_feed(self):
        rows = [ROW.format(k) for k in range(8)]
        for many in range(9):
            for tail in ("0 every 1", "9 every 1", "wrong", " ", "9 every 2 1+1"):
                self.check_wrong(parse_road, "".join(rows[:many]) + tail, many)
        self.check_wrong(parse_road, "wrong\n" + rows[0] + "more", 0)


class Yards(TextCase):
    def some_yard(self, rng):
        yard = Yard()
        for name in rng.sample(["a", "b", "ab", "zz", "north", "abcdefgh", "road", "none", "every"], rng.randint(0, 6)):
            yard.apply(("road", name, some_gates(rng, rng.randint(0, 8))))
        return yard

    def test_there_and_back(self):
        rng = source("texts of yards")
        for _ in range(40):
            yard = self.some_yard(rng)
            yard.undo() if yard.names() and rng.random() < 0.3 else None
            text = format_yard(yard=yard)
            expected = "".join([f"road {name}\n{yard.road(name)}" for name in sorted(yard.names())])
            self.assertEqual(text, expected)
            result = parse_yard(text)
            self.assertIs(type(result), Yard)
            self.assertTrue(result == yard)
            self.assertEqual(format_yard(result), text)
            self.assertEqual((result.history(), result.cached(), result.computations()), ((0, 0), [], 0))

    def test_parsed_yards_work_on(self):
        yard = parse_yard(text="road a\n" + ROW.format(0) + ROW.format(1) + "road b\n")
        yard.pieces("a")
        yard.apply(("put", "b", plain(3)))
        self.assertEqual((yard.history(), yard.cached(), len(yard.road("b"))), ((1, 0), ["a"], 1))
        yard.undo()
        self.assertEqual((yard.names(), len(yard.road("b"))), (["a", "b"], 0))

    def test_empty(self):
        self.assertEqual(format_yard(Yard()), "")
        self.assertTrue(parse_yard("") == Yard())
        self.check_wrong(parse_yard, "\n", 0)

    def test_wrong_rows(self):
        for row in ("", "road", "road ", "road  a", " road a", "road a ", "road A", "road a1", "road abcdefghi",
                    "roads a", "Road a", "a", "road a b", "wrong", "0 every 2", "0 every 2 1+1 ", "none"):
            self.check_wrong(parse_yard, row + "\n", 0)
            self.check_wrong(parse_yard, "road b\n" + row + "\n", 1)
            self.check_wrong(parse_yard, "road b\n" + ROW.format(0) + row + "\nroad c\n", 2)

    def test_gate_ahead_of_the_first_road(self):
        self.check_wrong(parse_yard, ROW.format(0), 0)
        self.check_wrong(parse_yard, ROW.format(0) + "road a\n", 0)

    def test_order_of_names(self):
        self.check_wrong(parse_yard, "road b\nroad a\n", 1)
        self.check_wrong(parse_yard, "road a\nroad a\n", 1)
        self.check_wrong(parse_yard, "road a\n" + ROW.format(1) + "road b\nroad a\nwrong\n", 3)
        self.check_wrong(parse_yard, "road ab\nroad b\nroad aa\n", 2)
        self.assertEqual(parse_yard("road a\nroad aa\nroad ab\nroad b\n").names(), ["a", "aa", "ab", "b"])

    def test_seventh_road(self):
        rows = [f"road {name}\n" for name in "abcdefgh"]
        self.assertEqual(len(parse_yard("".join(rows[:6]))), 6)
        self.check_wrong(parse_yard, "".join(rows[:7]), 6)
        self.check_wrong(parse_yard, ROW.format(0).join(rows), 12)
        self.check_wrong(parse_yard, "".join(rows[:6]) + "road a\n", 6)

    def test_order_of_places(self):
        self.check_wrong(parse_yard, "road a\n" + ROW.format(1) + ROW.format(0), 2)
        self.check_wrong(parse_yard, "road a\n" + ROW.format(1) + ROW.format(1), 2)
        # Each road has an order of its own.
        yard = parse_yard("road a\n" + ROW.format(1) + "road b\n" + ROW.format(0) + ROW.format(1))
        self.assertEqual(yard.road("b").places(), [(0, 1), (1, 1)])

    def test_ninth_gate(self):
        eight = "".join([ROW.format(k) for k in range(8)])
        yard = parse_yard("road a\n" + eight + "road b\n" + eight)
        self.assertEqual((len(yard.road("a")), len(yard.road("b"))), (8, 8))
        self.check_wrong(parse_yard, "road a\n" + eight + ROW.format(8), 9)
        self.check_wrong(parse_yard, "road a\n" + eight + "road b\n" + eight + ROW.format(8) + "road a\n", 18)

    def test_missing_line_feed(self):
        self.check_wrong(parse_yard, "road a", 0)
        self.check_wrong(parse_yard, "road a\nroad b", 1)
        self.check_wrong(parse_yard, "road a\n0 every 1", 1)
        self.check_wrong(parse_yard, "road a\n" + ROW.format(0) + " ", 2)
        self.check_wrong(parse_yard, "road b\nroad a\nroad c", 1)

    def test_rows_exchanged_or_repeated(self):
        rows = ["road a\n", ROW.format(0), ROW.format(1), "road b\n", ROW.format(0)]
        self.assertEqual(len(parse_yard("".join(rows))), 2)
        for at, position in ((0, 0), (1, 2)):
            changed = list(rows)
            changed[at], changed[at + 1] = changed[at + 1], changed[at]
            self.check_wrong(parse_yard, "".join(changed), position)
        for at in range(5):
            self.check_wrong(parse_yard, "".join(rows[:at + 1] + rows[at:]), at + 1)
