"""The package keeps to the small part of Python that its files are to be written in.

Not each rule can be seen from a file's text; these are the ones that a slip breaks first.
"""

import ast
import re
import unittest
from pathlib import Path

PACKAGE = Path(__file__).resolve().parent.parent / "slidecut"
FILES = sorted(PACKAGE.rglob("*.py"))
BUILTINS = set(
    "len range enumerate zip min max sum abs sorted reversed int str bool bytes list tuple dict set isinstance ord"
    " repr any all divmod Exception ValueError TypeError KeyError IndexError LookupError ZeroDivisionError"
    " ArithmeticError OverflowError RuntimeError NotImplementedError AttributeError StopIteration".split()
)
WORDS = re.compile(
    r"\b(type|typing|typing_extensions|enum|Enum|IntEnum|StrEnum|Flag|IntFlag|Generic|Protocol|ABC|ABCMeta|namedtuple"
    r"|NamedTuple|TypedDict|TYPE_CHECKING|abstractmethod)\b|dataclass|overload|contextmanager"
)
UNUSED = set(
    "register mro elements open input version_info with_traceback add_note attrgetter breakpoint builtins compile"
    " copyright credits delattr dir eval exec exit gc getattr globals hasattr help id importlib license locals"
    " methodcaller os quit setattr super vars sys format format_map args".split()
)
OUT = (
    ast.With, ast.Global, ast.Nonlocal, ast.Yield, ast.YieldFrom, ast.Await, ast.AsyncFunctionDef, ast.AsyncFor,
    ast.AsyncWith, ast.GeneratorExp, ast.NamedExpr, ast.Import, ast.Match, ast.Div, ast.MatMult,
)
# Of the methods of Python's own values these may be called.
CALLED = set(
    "append clear copy count endswith extend find get index insert isalnum isalpha isdigit islower isspace isupper"
    " items join keys ljust lower lstrip partition pop remove replace reverse rfind rjust rpartition rsplit rstrip"
    " setdefault split splitlines startswith strip update upper values zfill bit_length".split()
)
CHANGES = set("append clear extend insert pop remove reverse setdefault update".split())
METHODS = ("__init__", "__eq__", "__repr__", "__str__", "__len__")


def bound(tree):
    """Each name that a file gives, and each one that it asks as a value or a method."""
    for node in ast.walk(tree):
        if isinstance(node, (ast.FunctionDef, ast.ClassDef)):
            yield node.name
        elif isinstance(node, ast.Name) and isinstance(node.ctx, ast.Store):
            yield node.id
        elif isinstance(node, ast.arg):
            yield node.arg
        elif isinstance(node, ast.Attribute):
            yield node.attr


def defined(tree):
    """The names that a file defines at its top, as often as it does."""
    for node in tree.body:
        if isinstance(node, (ast.FunctionDef, ast.ClassDef)):
            yield node.name
        elif isinstance(node, ast.Assign):
            yield from (target.id for target in node.targets)


def drawn(tree):
    """The modules that a file draws from, with the names, and how many dots stand ahead."""
    for node in ast.walk(tree):
        if isinstance(node, ast.ImportFrom):
            yield node.module, [name.name for name in node.names], node.level


def parsed(path):
    """A file's text, and what Python reads in it."""
    text = path.read_text(encoding="utf-8")
    return text, ast.parse(text, str(path))


class Language(unittest.TestCase):
    def test_there_are_files(self):
        self.assertTrue(FILES)

    def test_nothing_else_lies_in_the_package(self):
        for path in PACKAGE.rglob("*"):
            if "__pycache__" not in path.parts and path.is_file():
                self.assertRegex(path.name, r"^[a-z0-9_]+\.py$")

    def test_sizes_and_signs(self):
        for path in FILES:
            text, tree = parsed(path)
            with self.subTest(path.name):
                rows = text.split("\n")
                self.assertLessEqual(len(rows), 400)
                self.assertLessEqual(max(len(row) for row in rows), 120)
                self.assertRegex(text, r"\A[ -~\n]*\Z")
                for node in ast.walk(tree):
                    if isinstance(node, ast.FunctionDef):
                        self.assertLessEqual(node.end_lineno - node.lineno + 1, 40, node.name)

    def test_words_that_stand_nowhere(self):
        for path in FILES:
            text, tree = parsed(path)
            with self.subTest(path.name):
                self.assertIsNone(WORDS.search(text))
                for node in ast.walk(tree):
                    if isinstance(node, ast.Constant) and isinstance(node.value, str):
                        self.assertNotIn(chr(37), node.value)

    def test_only_plain_forms(self):
        for path in FILES:
            text, tree = parsed(path)
            with self.subTest(path.name):
                for node in ast.walk(tree):
                    self.assertNotIsInstance(node, OUT)
                    if isinstance(node, ast.Constant):
                        self.assertNotIsInstance(node.value, (float, complex))
                    if isinstance(node, (ast.For, ast.While)):
                        self.assertEqual(node.orelse, [])
                    if isinstance(node, (ast.FunctionDef, ast.ClassDef)):
                        self.assertEqual(node.decorator_list, [])
                    if isinstance(node, ast.FunctionDef):
                        self.assertFalse(node.args.vararg or node.args.kwarg or node.args.posonlyargs)
                    if isinstance(node, ast.ClassDef):
                        self.assertLessEqual(len(node.bases), 1)

    def test_names(self):
        own = set(dir(__builtins__) if not isinstance(__builtins__, dict) else __builtins__)
        for path in FILES:
            text, tree = parsed(path)
            with self.subTest(path.name):
                for name in bound(tree):
                    self.assertTrue(name in METHODS or re.match(r"^[A-Za-z][A-Za-z0-9_]*$", name), name)
                    self.assertNotIn(name, UNUSED)
                tops = list(defined(tree))
                for module, names, level in drawn(tree):
                    tops.extend(names)
                self.assertEqual(len(tops), len(set(tops)))
                given = set(bound(tree)) | set(tops)
                for node in ast.walk(tree):
                    if isinstance(node, ast.Name) and node.id not in given:
                        self.assertIn(node.id, BUILTINS)
                    if isinstance(node, ast.Name) and isinstance(node.ctx, ast.Store) or isinstance(node, ast.arg):
                        name = node.id if isinstance(node, ast.Name) else node.arg
                        self.assertNotIn(name, own)

    def test_methods_and_values(self):
        trees = {path: parsed(path)[1] for path in FILES}
        given = {"methods": set(), "values": set()}
        for tree in trees.values():
            for node in ast.walk(tree):
                if isinstance(node, ast.ClassDef):
                    given["methods"] |= {inner.name for inner in node.body if isinstance(inner, ast.FunctionDef)}
                if isinstance(node, ast.Attribute) and isinstance(node.ctx, ast.Store):
                    given["values"].add(node.attr)
        self.assertEqual(given["methods"] & given["values"], set())
        self.assertEqual((given["methods"] | given["values"]) & CALLED, set())
        for path, tree in trees.items():
            with self.subTest(path.name):
                for node in ast.walk(tree):
                    if isinstance(node, ast.Attribute):
                        self.assertIn(node.attr, CALLED | given["methods"] | given["values"])

    def test_nothing_drawn_is_given_anew(self):
        for path in FILES:
            text, tree = parsed(path)
            with self.subTest(path.name):
                names = {name for module, some, level in drawn(tree) for name in some}
                for node in ast.walk(tree):
                    if isinstance(node, ast.Name) and isinstance(node.ctx, ast.Store):
                        self.assertNotIn(node.id, names)
                    if isinstance(node, ast.arg):
                        self.assertNotIn(node.arg, names)

    def test_what_a_loop_walks_is_not_changed_in_it(self):
        for path in FILES:
            text, tree = parsed(path)
            with self.subTest(path.name):
                for node in ast.walk(tree):
                    if isinstance(node, ast.For):
                        walked = {inner.id for inner in ast.walk(node.iter) if isinstance(inner, ast.Name)}
                        for inner in ast.walk(node):
                            if isinstance(inner, ast.Call) and isinstance(inner.func, ast.Attribute):
                                if inner.func.attr in CHANGES and isinstance(inner.func.value, ast.Name):
                                    self.assertNotIn(inner.func.value.id, walked)

    def test_draws(self):
        sources = {}
        for path in FILES:
            text, tree = parsed(path)
            with self.subTest(path.name):
                inner = "slidecut." + path.stem
                sources[inner] = [module for module, names, level in drawn(tree)]
                for module, names, level in drawn(tree):
                    self.assertEqual(level, 0)
                    self.assertNotIn("*", names)
                    self.assertRegex(module, r"^slidecut\.[a-z_]+$")
                    source = parsed(PACKAGE / f"{module.partition('.')[2]}.py")[1]
                    self.assertLessEqual(set(names), set(defined(source)))
        while sources:
            free = [name for name in sources if not set(sources[name]) & set(sources)]
            self.assertTrue(free, "files draw from one another")
            for name in free:
                del sources[name]


if __name__ == "__main__":
    unittest.main()
