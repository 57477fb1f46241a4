"""The form of the package: the rules of LANGUAGE.md that can be seen from the code alone."""

import ast
import builtins
import pathlib
import re
import unittest

import evenpace

PACKAGE = pathlib.Path(evenpace.__file__).parent
FILES = sorted(PACKAGE.glob("*.py"))
TREES = {path.stem: ast.parse(path.read_text()) for path in FILES}
BUILTINS = set("""
    len range enumerate zip min max sum abs sorted reversed int str bool bytes list tuple dict set frozenset
    isinstance ord repr any all divmod iter next super property staticmethod classmethod NotImplemented
    Exception ValueError TypeError KeyError IndexError LookupError ZeroDivisionError ArithmeticError
    OverflowError RuntimeError NotImplementedError StopIteration""".split())
METHODS = set("""
    append clear copy count endswith extend find get index insert isalnum isalpha isdigit islower isspace isupper
    items join keys ljust lower lstrip partition pop remove replace reverse rfind rjust rpartition rsplit rstrip
    setdefault split splitlines startswith strip update upper values zfill bit_length sort add discard
    title capitalize swapcase casefold center expandtabs removeprefix removesuffix rindex isascii isdecimal
    isnumeric istitle isidentifier isprintable translate __init__""".split())
BARRED = re.compile(r"""\b(type|typing|typing_extensions|enum|Enum|IntEnum|StrEnum|Flag|IntFlag|Generic|Protocol|ABC|
    ABCMeta|namedtuple|NamedTuple|TypedDict|TYPE_CHECKING|abstractmethod)\b|dataclass|overload|contextmanager""", re.X)
STATEMENTS = (ast.ImportFrom, ast.FunctionDef, ast.ClassDef, ast.Assign)


def nodes(kind):
    """All nodes of a kind, each with the file and the line for messages."""
    for name, tree in TREES.items():
        for node in ast.walk(tree):
            if isinstance(node, kind):
                yield node, f"{name}.py:{getattr(node, 'lineno', 0)}"


def bound_at_top(tree):
    """The names that a module binds, in order."""
    for node in tree.body:
        if isinstance(node, ast.ImportFrom):
            yield from [alias.asname or alias.name for alias in node.names]
        elif isinstance(node, ast.Assign):
            yield from [target.id for target in node.targets]
        elif isinstance(node, (ast.FunctionDef, ast.ClassDef)):
            yield node.name


def names_of(node):
    """The names that a node gives to something."""
    if isinstance(node, ast.Name):
        return [node.id] if not isinstance(node.ctx, ast.Load) else []
    if isinstance(node, ast.arg):
        return [node.arg]
    return [node.name] if isinstance(node, (ast.FunctionDef, ast.ClassDef)) else []


class Form(unittest.TestCase):
    def test_files_and_characters(self):
        found = [path.name for path in PACKAGE.iterdir() if path.name != "__pycache__"]
        self.assertEqual(sorted(found), [path.name for path in FILES])
        for path in FILES:
            self.assertRegex(path.name, r"\A[a-z_][a-z0-9_]*\.py\Z")
            text = path.read_text()
            self.assertRegex(text, r"\A[ -~\n]*\Z", path.name)
            self.assertIsNone(BARRED.search(text), path.name)
            self.assertLessEqual(len(text.splitlines()), 400, path.name)
            self.assertLessEqual(max(map(len, text.splitlines())), 120, path.name)

    def test_functions(self):
        for node, where in nodes(ast.FunctionDef):
            self.assertLessEqual(node.end_lineno - node.lineno + 1, 40, where)
            self.assertEqual(node.args.posonlyargs, [], where)
            self.assertEqual(node.decorator_list, [], where)

    def test_module_level(self):
        for name, tree in TREES.items():
            rest = tree.body[1:] if ast.get_docstring(tree) else tree.body
            for node in rest:
                self.assertIsInstance(node, STATEMENTS, name)
            bound = list(bound_at_top(tree))
            self.assertEqual(len(bound), len(set(bound)), name)

    def test_imports(self):
        for node, where in nodes((ast.Import, ast.ImportFrom)):
            self.assertIsInstance(node, ast.ImportFrom, where)
            self.assertEqual((node.level, node.module.split(".")[0]), (0, "evenpace"), where)
            defined = list(bound_at_top(TREES[node.module.split(".")[1]]))
            for alias in node.names:
                self.assertIn(alias.name, defined, where)

    def test_names(self):
        for node, where in nodes((ast.Name, ast.arg, ast.FunctionDef, ast.ClassDef)):
            for name in names_of(node):
                self.assertNotIn(name, vars(builtins), where)
                self.assertTrue(not name.startswith("_") or name.startswith("__") and name.endswith("__"), where)
            if isinstance(node, ast.Name) and node.id in vars(builtins):
                self.assertIn(node.id, BUILTINS, where)

    def test_names_of_imports_and_classes_are_free_of_locals(self):
        for name, tree in TREES.items():
            taken = {alias.asname or alias.name for node in tree.body if isinstance(node, ast.ImportFrom)
                     for alias in node.names}
            taken |= {node.name for node in tree.body if isinstance(node, ast.ClassDef)}
            for function in ast.walk(tree):
                if isinstance(function, (ast.FunctionDef, ast.Lambda)):
                    for node in ast.walk(function):
                        if isinstance(node, (ast.Name, ast.arg)):
                            self.assertFalse(taken & set(names_of(node)), f"{name}.py:{node.lineno}")

    def test_no_two_files_import_each_other(self):
        above = {name: {node.module.split(".")[1] for node in tree.body if isinstance(node, ast.ImportFrom)}
                 for name, tree in TREES.items()}
        while above:
            free = [name for name in above if not above[name] & set(above)]
            self.assertNotEqual(free, [], above)
            above = {name: needed for name, needed in above.items() if name not in free}

    def test_methods_and_attributes_differ(self):
        methods = {inner.name for node, where in nodes(ast.ClassDef) for inner in node.body
                   if isinstance(inner, ast.FunctionDef)}
        stored = {node.attr for node, where in nodes(ast.Attribute) if isinstance(node.ctx, ast.Store)}
        self.assertEqual(methods & stored, set())

    def test_nothing_is_iterated_late(self):
        # A class has __eq__, so any, all and the like take lists; zip and the like are not stored.
        for node, where in nodes(ast.GeneratorExp):
            self.fail(where)
        for node, where in nodes((ast.Assign, ast.Return)):
            called = getattr(getattr(node.value, "func", None), "id", None)
            self.assertNotIn(called, ("zip", "enumerate", "reversed", "range"), where)

    def test_attributes(self):
        own = {node.name for node, where in nodes(ast.FunctionDef)}
        own |= {node.attr for node, where in nodes(ast.Attribute) if isinstance(node.ctx, ast.Store)}
        for node, where in nodes(ast.Attribute):
            self.assertIn(node.attr, own | METHODS, where)

    def test_values_and_signs(self):
        for node, where in nodes(ast.Constant):
            self.assertNotIsInstance(node.value, (float, complex), where)
            if isinstance(node.value, str):
                self.assertNotIn("%", node.value, where)
        for node, where in nodes((ast.BinOp, ast.AugAssign)):
            self.assertNotIsInstance(node.op, (ast.Div, ast.MatMult), where)
            if isinstance(node.op, ast.Pow):
                self.assertIn(getattr(node.right, "value", None), range(65), where)

    def test_is_only_with_constants(self):
        for node, where in nodes(ast.Compare):
            for sign, other in zip(node.ops, node.comparators):
                if isinstance(sign, (ast.Is, ast.IsNot)):
                    self.assertIsInstance(other, ast.Constant, where)
