"""The texts of fractions."""

import itertools
import math
import re
import unittest
from fractions import Fraction

from evenpace.errors import PaceError, ParseError
from evenpace.rationals import format_fraction, parse_fraction
from tests.samples import is_plain_fraction, number, pair, source

PATTERN = re.compile("(-?)(0|[1-9][0-9]{0,29})(?:/([1-9][0-9]{0,29}))?")
SIGNS = [chr(code) for code in range(32, 127) if chr(code) != "%"] + ["\n"]


def expected(text):
    """The fraction that [18] gives a text, or None if the text is not one of a fraction."""
    found = PATTERN.fullmatch(text)
    if not found:
        return None
    num, den = int(found[1] + found[2]), int(found[3] or 1)
    if found[3] == "1" or math.gcd(num, den) != 1 or text.startswith("-0"):
        return None
    return (num, den)


class Texts(unittest.TestCase):
    def check(self, text):
        value = expected(text)
        if value is None:
            self.check_wrong(text)
            return
        result = parse_fraction(text)
        self.assertTrue(is_plain_fraction(result), result)
        self.assertEqual(result, value, text)

    def check_wrong(self, text):
        with self.assertRaises(ParseError, msg=text) as caught:
            parse_fraction(text)
        self.assertEqual((caught.exception.position, caught.exception.tag), (0, "ParseError"))
        self.assertIsInstance(caught.exception, PaceError)

    def test_there_and_back(self):
        rng = source("there and back")
        for _ in range(1000):
            value = pair(Fraction(number(rng), abs(number(rng)) or 1))
            sign, (num, den) = "-" if value[0] < 0 else "", value
            text = format_fraction(value)
            self.assertEqual(text, sign + str(abs(num)) + ("" if den == 1 else "/" + str(den)))
            self.assertEqual(parse_fraction(text), value)

    def test_one_character_changed(self):
        rng = source("changed texts")
        for _ in range(1000):
            text = format_fraction(pair(Fraction(number(rng), abs(number(rng)) or 1)))
            at = rng.randrange(len(text) + 1)
            sign = rng.choice(rng.choice([SIGNS, list("-/0123456789")]))
            self.check(text[:at] + sign + text[at:])
            self.check(text[:at] + text[at + 1:])
            self.check(text[:at] + sign + text[at + 1:])

    def test_all_short_texts_of_few_characters(self):
        for length in range(6):
            for signs in itertools.product("-/0124", repeat=length):
                self.check("".join(signs))

    def test_arbitrary_short_texts(self):
        for sign in SIGNS:
            for text in (sign, sign + "5", "5" + sign, "1" + sign + "2", "1/" + sign + "2", "1/2" + sign):
                self.check(text)
        rng = source("short texts")
        for _ in range(3000):
            self.check("".join(rng.choices(SIGNS, k=rng.randint(0, 5))))

    def test_thirty_and_thirty_one_digits(self):
        for digits in (29, 30, 31, 32, 60):
            for number_text in ("1" * digits, "1" + "0" * (digits - 1), "9" * digits, "0" * digits):
                for form in ("{}", "-{}", "2/{}", "-2/{}", "{}/7", "{}/{}"):
                    self.check(form.replace("{}", number_text))

    def test_longest_texts(self):
        text = "-" + "9" * 30 + "/1" + "0" * 29
        self.assertEqual(parse_fraction(text), (1 - 10 ** 30, 10 ** 29))
        self.check_wrong("1" + "0" * 30)
        self.check_wrong("1/1" + "0" * 30)
        self.check_wrong("1" * 6000)

    def test_named_edges(self):
        for text in ("", "-", "/", "-0", "0/1", "0/2", "1/0", "0/0", "5/1", "2/4", "01", "1/02", "-1/-2", "1/-2"):
            self.check_wrong(text)
        for text in ("1/", "/2", "--1", "+1", " 1", "1 ", "1\n", "\n1", "1_0", "1.5", "1/2/3", "1e3", "0x1"):
            self.check_wrong(text)
        self.assertEqual([parse_fraction(text) for text in ("0", "-1", "1/2")], [(0, 1), (-1, 1), (1, 2)])

    def test_digits_of_other_scripts(self):
        for text in ("\u0663", "\u00b2", "1/\u0663"):
            self.check_wrong(text)

    def test_numbers_of_any_size_are_written(self):
        for zeros in (59, 60, 61, 119, 120, 4299, 4300, 9000):
            self.assertEqual(format_fraction((-10 ** zeros, 1)), "-1" + "0" * zeros)
            self.assertEqual(format_fraction((10 ** zeros - 1, 10 ** zeros)), "9" * zeros + "/1" + "0" * zeros)
        rng = source("long numbers")
        for _ in range(20):
            blocks = [rng.randint(1, 9)] + [rng.randint(0, 99) for _ in range(rng.randint(0, 3000))]
            num = 0
            for block in blocks:
                num = num * 100 + block
            text = str(blocks[0]) + "".join(["{:02}".format(block) for block in blocks[1:]])
            self.assertEqual(format_fraction((num, 1)), text)

    def test_by_keyword(self):
        self.assertEqual(format_fraction(one=(-3, 4)), "-3/4")
        self.assertEqual(parse_fraction(text="-3/4"), (-3, 4))
