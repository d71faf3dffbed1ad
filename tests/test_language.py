"""The package keeps to the language's rules, as far as a reading of the code shows."""

import ast
import builtins
import pathlib
import re
import unittest

PACKAGE = pathlib.Path(__file__).resolve().parent.parent / "keepwhole"

BUILTINS = set("""
    len range enumerate zip min max sum abs sorted reversed int str bool bytes list tuple dict set frozenset isinstance
    ord repr any all divmod Exception ValueError TypeError KeyError IndexError LookupError ZeroDivisionError
    ArithmeticError OverflowError RuntimeError NotImplementedError AttributeError StopIteration
""".split())

METHODS = set("""
    append clear copy count endswith extend find get index insert isalnum isalpha isdigit islower isspace isupper items
    join keys ljust lower lstrip partition pop remove replace reverse rfind rjust rpartition rsplit rstrip setdefault
    split splitlines startswith strip update upper values zfill bit_length title capitalize swapcase casefold center
    expandtabs removeprefix removesuffix rindex isascii isdecimal isnumeric istitle isidentifier isprintable translate
    encode decode hex fromhex to_bytes from_bytes maketrans add discard sort
""".split())

BARRED = re.compile(
    r"\b(type|typing|typing_extensions|enum|Enum|IntEnum|StrEnum|Flag|IntFlag|Generic|Protocol|ABC|ABCMeta|namedtuple"
    r"|NamedTuple|TypedDict|TYPE_CHECKING|abstractmethod)\b|dataclass|overload|contextmanager")

STATEMENTS = (
    ast.With, ast.AsyncWith, ast.Match, ast.Global, ast.Nonlocal, ast.Yield, ast.YieldFrom, ast.Await, ast.AsyncFor,
    ast.AsyncFunctionDef, ast.GeneratorExp, ast.NamedExpr, ast.Div, ast.MatMult, ast.Import,
)

DOUBLE = {"__init__", "__eq__", "__repr__", "__str__", "__len__", "__all__", "__version__", "__name__"}

FILES = sorted(path for path in PACKAGE.iterdir() if path.name != "__pycache__")


def each_node():
    for path in FILES:
        for node in ast.walk(ast.parse(path.read_text())):
            yield path, node


class Language(unittest.TestCase):
    def at(self, path, node):
        return f"{path.name}:{getattr(node, 'lineno', '?')}"

    def test_files(self):
        for path in FILES:
            self.assertRegex(path.name, r"^[a-z0-9_]+\.py$")
            text = path.read_text()
            lines = text.split("\n")
            self.assertLessEqual(len(lines), 401, path.name)
            for number, line in enumerate(lines, 1):
                self.assertRegex(line, r"^[ -~]{0,120}$", f"{path.name}:{number}")
                self.assertIsNone(BARRED.search(line), f"{path.name}:{number}")

    def test_module_level(self):
        plain = (ast.ImportFrom, ast.FunctionDef, ast.ClassDef, ast.Assign, ast.AnnAssign)
        for path in FILES:
            if path.name == "__main__.py":
                continue
            for number, node in enumerate(ast.parse(path.read_text()).body):
                docstring = number == 0 and isinstance(node, ast.Expr) and isinstance(node.value, ast.Constant)
                self.assertTrue(docstring or isinstance(node, plain), self.at(path, node))

    def test_imports(self):
        bound = {}
        for path in FILES:
            body = ast.parse(path.read_text()).body
            bound[path.stem] = {node.name for node in body if isinstance(node, (ast.FunctionDef, ast.ClassDef))}
            stored = [name for node in body for name in ast.walk(node) if isinstance(name, ast.Name)]
            bound[path.stem] |= {name.id for name in stored if isinstance(name.ctx, ast.Store)}
        after = {stem: set() for stem in bound}
        for path, node in each_node():
            if isinstance(node, ast.ImportFrom) and node.module != "__future__":
                self.assertEqual(node.level, 0, self.at(path, node))
                folder, _, stem = node.module.partition(".")
                self.assertEqual(folder, "keepwhole", self.at(path, node))
                after[path.stem].add(stem)
                for name in node.names:
                    self.assertIn(name.name, bound[stem], self.at(path, node))
        while after:
            free = [stem for stem in after if not after[stem] & set(after)]
            self.assertTrue(free, f"these import from each other: {sorted(after)}")
            after = {stem: behind for stem, behind in after.items() if stem not in free}

    def test_statements_and_expressions(self):
        for path, node in each_node():
            if path.name == "__main__.py":
                continue
            self.assertNotIsInstance(node, STATEMENTS, self.at(path, node))
            if isinstance(node, ast.Starred):
                self.assertIsInstance(node.ctx, ast.Store, self.at(path, node))
            if isinstance(node, (ast.For, ast.While)):
                self.assertEqual(node.orelse, [], self.at(path, node))
            if isinstance(node, ast.Constant):
                self.assertNotIsInstance(node.value, (float, complex), self.at(path, node))
                self.assertNotIn("%", node.value if isinstance(node.value, str) else "", self.at(path, node))
            if isinstance(node, ast.FormattedValue):
                self.assertIsNone(node.format_spec, self.at(path, node))
            if isinstance(node, ast.Compare) and any(isinstance(op, (ast.Is, ast.IsNot)) for op in node.ops):
                for side in node.comparators:
                    self.assertIsInstance(side, ast.Constant, self.at(path, node))
                    self.assertIn(side.value, (None, True, False), self.at(path, node))

    def test_functions_and_classes(self):
        for path, node in each_node():
            if isinstance(node, ast.FunctionDef):
                self.assertLessEqual(node.end_lineno - node.lineno + 1, 40, self.at(path, node))
                self.assertFalse(node.args.vararg or node.args.kwarg or node.args.posonlyargs, self.at(path, node))
            if isinstance(node, (ast.FunctionDef, ast.ClassDef)):
                self.assertEqual(node.decorator_list, [], self.at(path, node))
            if isinstance(node, ast.ClassDef):
                self.assertLessEqual(len(node.bases), 1, self.at(path, node))

    def test_names(self):
        own = set()
        for _, node in each_node():
            if isinstance(node, (ast.FunctionDef, ast.ClassDef)):
                own.add(node.name)
        for path, node in each_node():
            where = self.at(path, node)
            named = getattr(node, "id", None) or getattr(node, "arg", None) or getattr(node, "attr", None)
            if isinstance(named, str) and named.startswith("_"):
                self.assertIn(named, DOUBLE, where)
            if isinstance(node, ast.Name) and hasattr(builtins, node.id) and path.name != "__main__.py":
                self.assertIn(node.id, BUILTINS, where)
                self.assertIsInstance(node.ctx, ast.Load, where)
            if isinstance(node, ast.arg):
                self.assertFalse(hasattr(builtins, node.arg), where)
            if isinstance(node, ast.Call) and isinstance(node.func, ast.Attribute):
                self.assertIn(node.func.attr, METHODS | own | DOUBLE, where)


if __name__ == "__main__":
    unittest.main()
