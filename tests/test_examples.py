"""The examples of DOC.md, read from the document, for the modules that the package has."""

import pathlib
import re
import unittest

import evenpace
from evenpace import errors

DOCUMENT = pathlib.Path(__file__).resolve().parents[2] / "shared" / "DOC.md"
PACKAGE = pathlib.Path(evenpace.__file__).parent
NAMES = (
    "rationals.py", "lattices.py", "gates.py", "roads.py", "steps.py", "pieces.py", "starts.py", "shadows.py",
    "closures.py", "lateness.py", "yard.py", "texts.py", "desk.py")


def sections():
    """The names of the package's files with the parts of the interface that describe them."""
    parts = re.split(r"^## evenpace/(\w+\.py)$", DOCUMENT.read_text(), flags=re.MULTILINE)
    return [(name, text) for name, text in zip(parts[1::2], parts[2::2]) if (PACKAGE / name).exists()]


def examples(text):
    return re.findall(r"^```\n(>>> .*?)^```$", text, flags=re.MULTILINE | re.DOTALL)


def split_example(example):
    """The rows of code and the row that tells the result, or None if there is none."""
    rows = example.splitlines()
    code = [row.removeprefix(">>> ") for row in rows if row.startswith(">>> ")]
    told = [row for row in rows if not row.startswith(">>> ")]
    return code, told[0] if told else None


class Examples(unittest.TestCase):
    def test_every_example(self):
        for name, text in sections():
            for example in examples(text):
                with self.subTest(file=name, example=example):
                    self.check(*split_example(example))

    def check(self, code, told):
        space = {}
        exec("\n".join(code[:-1]), space)
        if told is None:
            exec(code[-1], space)
        elif told.startswith("raises "):
            self.check_error(code[-1], space, told.removeprefix("raises "))
        else:
            self.assertEqual(repr(eval(code[-1], space)), repr(eval(told)))

    def check_error(self, code, space, told):
        name, _, fields = told.partition("(")
        with self.assertRaises(getattr(errors, name)) as caught:
            eval(code, space)
        expected = eval("dict(" + fields) if fields else {}
        self.assertEqual(vars(caught.exception), {**expected, "tag": name})

    def test_examples_are_found(self):
        found = {name: len(examples(text)) for name, text in sections()}
        for name in NAMES:
            self.assertGreater(found[name], 0)
