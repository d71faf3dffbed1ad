"""The package keeps to the language's rules, as far as a reading of the code shows."""

import ast
import builtins
import io
import pathlib
import re
import tokenize
import unittest
import warnings

PACKAGE = pathlib.Path(__file__).resolve().parent.parent / "keepwhole"

BUILTINS = set("""
    len range enumerate zip min max sum abs sorted reversed int str bool bytes list tuple dict set frozenset isinstance
    ord repr any all divmod Exception ValueError TypeError KeyError IndexError LookupError ZeroDivisionError
    ArithmeticError OverflowError RuntimeError NotImplementedError AttributeError StopIteration
""".split())

METHODS = set("""
    append clear copy count endswith extend find get index insert isalnum isalpha isdigit islower isspace isupper items
    join keys ljust lower lstrip partition pop remove replace reverse rfind rjust rpartition rsplit rstrip setdefault
    split splitlines startswith strip update upper values zfill bit_length title capitalize swapcase casefold center
    expandtabs removeprefix removesuffix rindex isascii isdecimal isnumeric istitle isidentifier isprintable translate
    encode decode hex fromhex to_bytes from_bytes maketrans add discard sort
""".split())

BARRED = re.compile(
    r"\b(type|typing|typing_extensions|enum|Enum|IntEnum|StrEnum|Flag|IntFlag|Generic|Protocol|ABC|ABCMeta|namedtuple"
    r"|NamedTuple|TypedDict|TYPE_CHECKING|abstractmethod)\b|dataclass|overload|contextmanager")

STATEMENTS = (
    ast.With, ast.AsyncWith, ast.Match, ast.Global, ast.Nonlocal, ast.Yield, ast.YieldFrom, ast.Await, ast.AsyncFor,
    ast.AsyncFunctionDef, ast.GeneratorExp, ast.NamedExpr, ast.Div, ast.MatMult, ast.Import,
)

UNUSED = set("""
    register mro elements open input version_info with_traceback add_note attrgetter breakpoint builtins compile
    copyright credits delattr dir eval exec exit gc getattr globals hasattr help id importlib license locals
    methodcaller os quit setattr super type vars sys
""".split())

AT_ONCE = {"zip", "enumerate", "reversed", "range", "items", "keys", "values"}

TAKES_AT_ONCE = {
    "list", "tuple", "dict", "sorted", "sum", "any", "all", "enumerate", "zip", "bytes", "min", "max", "join", "len",
    "reversed"}

DOUBLE = {"__init__", "__eq__", "__repr__", "__str__", "__len__", "__all__", "__version__", "__name__"}

FILES = sorted(path for path in PACKAGE.iterdir() if path.name != "__pycache__")


def each_node():
    for path in FILES:
        for node in ast.walk(ast.parse(path.read_text())):
            yield path, node


def each_with_parent():
    for path in FILES:
        for parent in ast.walk(ast.parse(path.read_text())):
            for node in ast.iter_child_nodes(parent):
                yield path, parent, node


def called(node):
    """The name that a call calls; None for what is no call."""
    if not isinstance(node, ast.Call):
        return None
    return getattr(node.func, "id", None) or getattr(node.func, "attr", None)


class Language(unittest.TestCase):
    def at(self, path, node):
        return f"{path.name}:{getattr(node, 'lineno', '?')}"

    def test_files(self):
        for path in FILES:
            self.assertRegex(path.name, r"^[a-z0-9_]+\.py$")
            text = path.read_text()
            lines = text.split("\n")
            self.assertLessEqual(len(lines), 401, path.name)
            for number, line in enumerate(lines, 1):
                self.assertRegex(line, r"^[ -~]{0,120}$", f"{path.name}:{number}")
                self.assertIsNone(BARRED.search(line), f"{path.name}:{number}")

    def test_module_level(self):
        plain = (ast.ImportFrom, ast.FunctionDef, ast.ClassDef, ast.Assign, ast.AnnAssign)
        for path in FILES:
            if path.name == "__main__.py":
                continue
            for number, node in enumerate(ast.parse(path.read_text()).body):
                docstring = number == 0 and isinstance(node, ast.Expr) and isinstance(node.value, ast.Constant)
                self.assertTrue(docstring or isinstance(node, plain), self.at(path, node))

    def test_imports(self):
        bound = {}
        for path in FILES:
            body = ast.parse(path.read_text()).body
            bound[path.stem] = {node.name for node in body if isinstance(node, (ast.FunctionDef, ast.ClassDef))}
            stored = [name for node in body for name in ast.walk(node) if isinstance(name, ast.Name)]
            bound[path.stem] |= {name.id for name in stored if isinstance(name.ctx, ast.Store)}
        after = {stem: set() for stem in bound}
        for path, node in each_node():
            if isinstance(node, ast.ImportFrom) and node.module != "__future__":
                self.assertEqual(node.level, 0, self.at(path, node))
                folder, _, stem = node.module.partition(".")
                self.assertEqual(folder, "keepwhole", self.at(path, node))
                after[path.stem].add(stem)
                for name in node.names:
                    self.assertIn(name.name, bound[stem], self.at(path, node))
        while after:
            free = [stem for stem in after if not after[stem] & set(after)]
            self.assertTrue(free, f"these import from each other: {sorted(after)}")
            after = {stem: behind for stem, behind in after.items() if stem not in free}

    def test_statements_and_expressions(self):
        for path, node in each_node():
            if path.name == "__main__.py":
                continue
            self.assertNotIsInstance(node, STATEMENTS, self.at(path, node))
            if isinstance(node, ast.Starred):
                self.assertIsInstance(node.ctx, ast.Store, self.at(path, node))
            if isinstance(node, (ast.For, ast.While)):
                self.assertEqual(node.orelse, [], self.at(path, node))
            if isinstance(node, ast.Constant):
                self.assertNotIsInstance(node.value, (float, complex), self.at(path, node))
                self.assertNotIn("%", node.value if isinstance(node.value, str) else "", self.at(path, node))
            if isinstance(node, ast.FormattedValue):
                self.assertIsNone(node.format_spec, self.at(path, node))
            if isinstance(node, ast.Compare) and any(isinstance(op, (ast.Is, ast.IsNot)) for op in node.ops):
                for side in node.comparators:
                    self.assertIsInstance(side, ast.Constant, self.at(path, node))
                    self.assertIn(side.value, (None, True, False), self.at(path, node))

    def test_functions_and_classes(self):
        for path, node in each_node():
            if isinstance(node, ast.FunctionDef):
                self.assertLessEqual(node.end_lineno - node.lineno + 1, 40, self.at(path, node))
                self.assertFalse(node.args.vararg or node.args.kwarg or node.args.posonlyargs, self.at(path, node))
            if isinstance(node, (ast.FunctionDef, ast.ClassDef)):
                self.assertEqual(node.decorator_list, [], self.at(path, node))
            if isinstance(node, ast.ClassDef):
                self.assertLessEqual(len(node.bases), 1, self.at(path, node))

    def test_names(self):
        own = set()
        for _, node in each_node():
            if isinstance(node, (ast.FunctionDef, ast.ClassDef)):
                own.add(node.name)
        for path, node in each_node():
            where = self.at(path, node)
            named = getattr(node, "id", None) or getattr(node, "arg", None) or getattr(node, "attr", None)
            if isinstance(named, str) and named.startswith("_"):
                self.assertIn(named, DOUBLE, where)
            if isinstance(node, ast.Name) and hasattr(builtins, node.id) and path.name != "__main__.py":
                self.assertIn(node.id, BUILTINS, where)
                self.assertIsInstance(node.ctx, ast.Load, where)
            if isinstance(node, ast.arg):
                self.assertFalse(hasattr(builtins, node.arg), where)
            if isinstance(node, ast.Call) and isinstance(node.func, ast.Attribute):
                self.assertIn(node.func.attr, METHODS | own | DOUBLE, where)
            if path.name != "__main__.py":
                names = [getattr(node, field, None) for field in ("id", "arg", "name", "asname")]
                for name in names:
                    self.assertNotIn(name if isinstance(name, str) else "", UNUSED, where)

    def test_both_pythons_read_it_without_a_warning(self):
        for path in FILES:
            with warnings.catch_warnings():
                warnings.simplefilter("error")
                compile(path.read_text(), path.name, "exec")
            ast.parse(path.read_text(), path.name, feature_version=(3, 11))

    def test_one_binding_for_each_name(self):
        for path in FILES:
            body = ast.parse(path.read_text()).body
            aliases = [alias for node in body if isinstance(node, ast.ImportFrom) for alias in node.names]
            imports = [alias.asname or alias.name for alias in aliases]
            classes = [node.name for node in body if isinstance(node, ast.ClassDef)]
            functions = [node.name for node in body if isinstance(node, ast.FunctionDef)]
            values = [name.id for node in body if isinstance(node, ast.Assign) for name in node.targets]
            bound = imports + classes + functions + values
            self.assertEqual(len(bound), len(set(bound)), path.name)
            for function in ast.walk(ast.parse(path.read_text())):
                if isinstance(function, (ast.FunctionDef, ast.Lambda)):
                    for node in ast.walk(function):
                        local = node.arg if isinstance(node, ast.arg) else None
                        if isinstance(node, ast.Name) and isinstance(node.ctx, ast.Store):
                            local = node.id
                        self.assertNotIn(local, imports + classes, self.at(path, node))
                        self.assertFalse(local is not None and hasattr(builtins, local), self.at(path, node))

    def test_comprehensions_stand_in_functions(self):
        for path in FILES:
            for statement in ast.parse(path.read_text()).body:
                for node in ast.walk(statement):
                    if not isinstance(statement, (ast.FunctionDef, ast.ClassDef)):
                        self.assertNotIsInstance(node, (ast.ListComp, ast.DictComp, ast.SetComp, ast.Set, ast.Lambda))

    def test_sets_are_used_on_the_spot(self):
        for path, parent, node in each_with_parent():
            if isinstance(node, (ast.SetComp, ast.Set)) or called(node) in ("set", "frozenset"):
                self.assertNotEqual(called(node), "frozenset", self.at(path, node))
                right = isinstance(parent, (ast.Compare, ast.Assign)) or called(parent) in ("len", "sorted")
                self.assertTrue(right, self.at(path, node))

    def test_iterated_at_once(self):
        for path, parent, node in each_with_parent():
            if called(node) in AT_ONCE:
                loop = isinstance(parent, (ast.For, ast.comprehension)) and parent.iter is node
                inside = isinstance(parent, ast.Compare) and isinstance(parent.ops[0], (ast.In, ast.NotIn))
                self.assertTrue(loop or inside or called(parent) in TAKES_AT_ONCE, self.at(path, node))

    def test_errors(self):
        for path, node in each_node():
            if isinstance(node, ast.ExceptHandler):
                self.assertIsNotNone(node.type, self.at(path, node))
                for name in ast.walk(node.type):
                    self.assertNotIn(getattr(name, "id", ""), ("Exception", "TypeError"), self.at(path, node))
            if isinstance(node, ast.Raise) and node.exc is not None:
                self.assertIsInstance(node.exc, ast.Call, self.at(path, node))

    def test_numbers_and_strings(self):
        for path, node in each_node():
            if isinstance(node, ast.BinOp) and isinstance(node.op, ast.Pow):
                self.assertIsInstance(node.right, ast.Constant, self.at(path, node))
                self.assertIn(node.right.value, range(65), self.at(path, node))
        for path in FILES:
            for token in tokenize.generate_tokens(io.StringIO(path.read_text()).readline):
                if token.type == tokenize.STRING and not token.string.startswith("b"):
                    self.assertEqual(re.sub(r"\\[nt\\'\"]", "", token.string).count("\\"), 0, (path.name, token.start))

    def test_classes(self):
        methods, attributes, whole = set(), set(), set()
        for kind in (str, int, list, dict, set, bytes):
            whole |= set(dir(kind))
        for path, node in each_node():
            if isinstance(node, ast.ClassDef):
                for part in node.body:
                    docstring = isinstance(part, ast.Expr) and isinstance(part.value, ast.Constant)
                    self.assertTrue(docstring or isinstance(part, ast.FunctionDef), self.at(path, part))
                names = [part.name for part in node.body if isinstance(part, ast.FunctionDef)]
                self.assertEqual(len(names), len(set(names)), self.at(path, node))
                methods |= set(names)
            if isinstance(node, ast.Attribute) and isinstance(node.ctx, ast.Store):
                attributes.add(node.attr)
                self.assertIsInstance(node.value, ast.Name, self.at(path, node))
        self.assertLessEqual({name for name in methods if name.startswith("__")}, {"__init__"})
        # No name is a method here and an attribute there, and none is a method or an attribute of Python's own values.
        self.assertEqual(methods & attributes, set())
        self.assertEqual((methods - {"__init__"}) & (whole | UNUSED), set())
        self.assertEqual(attributes & whole, set())

    def test_values_at_module_level(self):
        """Plain values alone, no list or dict within one, and functions of the file that stand above."""
        plain = (ast.Constant, ast.Tuple, ast.List, ast.Dict, ast.Name, ast.Load, ast.UnaryOp, ast.USub)
        for path in FILES:
            above = set()
            for node in ast.parse(path.read_text()).body:
                if isinstance(node, ast.FunctionDef):
                    above.add(node.name)
                if isinstance(node, ast.Assign):
                    for part in ast.walk(node.value):
                        self.assertIsInstance(part, plain, self.at(path, node))
                        if isinstance(part, (ast.List, ast.Dict)):
                            self.assertIs(part, node.value, self.at(path, node))
                        if isinstance(part, ast.Name):
                            self.assertIn(part.id, above, self.at(path, node))

    def test_what_a_loop_goes_over_is_not_changed_in_it(self):
        changing = {"append", "clear", "extend", "insert", "pop", "remove", "reverse", "setdefault", "update", "sort"}
        for path, node in each_node():
            if not isinstance(node, ast.For):
                continue
            over = {ast.unparse(part) for part in ast.walk(node.iter) if isinstance(part, (ast.Name, ast.Attribute))}
            for part in ast.walk(node):
                changed = None
                if isinstance(part, ast.Call) and isinstance(part.func, ast.Attribute) and part.func.attr in changing:
                    changed = part.func.value
                if isinstance(part, ast.Subscript) and not isinstance(part.ctx, ast.Load):
                    changed = part.value
                self.assertNotIn(ast.unparse(changed) if changed else None, over, self.at(path, part))

    def test_own_functions_are_handed_what_they_take(self):
        takes = {}
        for path, node in each_node():
            if isinstance(node, ast.FunctionDef):
                self.assertEqual(node.args.defaults + node.args.kwonlyargs, [], self.at(path, node))
                own = [part for part in node.args.args if part.arg != "self"]
                takes.setdefault(node.name, set()).add(len(own))
        for path, node in each_node():
            if called(node) in takes:
                self.assertEqual(node.keywords, [], self.at(path, node))
                self.assertIn(len(node.args), takes[called(node)], self.at(path, node))

    def test_attributes_are_assigned_by_a_class(self):
        assigned = set()
        for path, node in each_node():
            if isinstance(node, ast.Attribute) and isinstance(node.ctx, ast.Store):
                assigned.add(node.attr)
        for path, parent, node in each_with_parent():
            if isinstance(node, ast.Attribute) and not (isinstance(parent, ast.Call) and parent.func is node):
                self.assertIn(node.attr, assigned | {"__name__"}, self.at(path, node))


if __name__ == "__main__":
    unittest.main()
