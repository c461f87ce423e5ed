"""The form of the package's own code: the small part of Python that it keeps to."""

import ast
import builtins
import pathlib
import re
import unittest

PACKAGE = pathlib.Path(__file__).resolve().parent.parent / "pathshape"

STATEMENTS = (ast.Assign, ast.AugAssign, ast.If, ast.While, ast.For, ast.Return, ast.Break, ast.Continue, ast.Pass,
              ast.Raise, ast.Try, ast.FunctionDef, ast.ClassDef, ast.ImportFrom, ast.Expr)

NOT_USED = (ast.GeneratorExp, ast.SetComp, ast.DictComp, ast.NamedExpr, ast.Starred, ast.Div, ast.MatMult, ast.Await,
            ast.Yield, ast.YieldFrom)

FREE_NAMES = """len range enumerate zip min max sum abs sorted reversed int str bool list tuple dict set frozenset
isinstance ord repr any all divmod Exception ValueError TypeError KeyError IndexError LookupError ZeroDivisionError
ArithmeticError OverflowError RuntimeError NotImplementedError AttributeError StopIteration""".split()

PYTHON_METHODS = """append clear copy count endswith extend find get index insert isalnum isalpha isdigit islower
isspace isupper items join keys ljust lower lstrip partition pop remove replace reverse rfind rjust rpartition rsplit
rstrip setdefault split splitlines startswith strip update upper values zfill bit_length""".split()

# What a value of an object may be called, though Python's own values have something of that name.
FREE_VALUES = "count index title find get join lower upper split strip copy add".split()

PYTHON_VALUES = (str, int, list, dict, tuple, set, frozenset, bytes, bytearray)

WORDS_OUT = re.compile(r"\b(type|typing|typing_extensions|enum|Enum|IntEnum|StrEnum|Flag|IntFlag|Generic|Protocol|ABC"
                       r"|ABCMeta|namedtuple|NamedTuple|TypedDict|TYPE_CHECKING|abstractmethod)\b"
                       r"|dataclass|overload|contextmanager")


def files():
    return sorted(path for path in PACKAGE.rglob("*") if "__pycache__" not in path.parts)


def trees():
    return [(path.name, ast.parse(path.read_text())) for path in files() if path.suffix == ".py"]


def nodes(*sorts):
    return [(name, node) for name, tree in trees() for node in ast.walk(tree) if isinstance(node, sorts)]


def python_own(name):
    return name in dir(builtins) and not name.startswith("__")


def with_parents():
    """Each node with the one that it stands in."""
    return [(name, child, node) for name, tree in trees() for node in ast.walk(tree)
            for child in ast.iter_child_nodes(node)]


def called(node):
    """The name of what a call calls, "" for what is no call."""
    if not isinstance(node, ast.Call):
        return ""
    return node.func.attr if isinstance(node.func, ast.Attribute) else node.func.id


def drawn_from():
    """For each file, those that it draws from."""
    drawn = {path.stem: [] for path in files()}
    for name, node in nodes(ast.ImportFrom):
        drawn[name[:-len(".py")]].append(node.module.split(".")[1])
    return drawn


def bound_names(node):
    """The names that a node binds by itself."""
    if isinstance(node, ast.Name) and isinstance(node.ctx, ast.Store):
        return [node.id]
    if isinstance(node, (ast.FunctionDef, ast.ClassDef)):
        return [node.name]
    if isinstance(node, ast.arg):
        return [node.arg]
    if isinstance(node, ast.ExceptHandler) and node.name:
        return [node.name]
    return []


class FormTest(unittest.TestCase):
    def test_files(self):
        self.assertTrue((PACKAGE / "__init__.py").is_file())
        for path in files():
            self.assertEqual(path.suffix, ".py", path)
            self.assertRegex(path.name, r"^(__init__|__main__|[a-z][a-z0-9_]*)\.py$")
            self.assertFalse(python_own(path.stem), path)
            self.assertFalse(path.stem.startswith("test"), path)

    def test_signs_and_size(self):
        for path in files():
            text = path.read_text()
            self.assertTrue(all(sign == "\n" or " " <= sign <= "~" for sign in text), path)
            self.assertLessEqual(len(text.splitlines()), 400, path)
            self.assertLessEqual(max(len(line) for line in text.splitlines()), 120, path)
            self.assertIsNone(WORDS_OUT.search(text), path)

    def test_functions(self):
        for name, node in nodes(ast.FunctionDef):
            self.assertLessEqual(node.end_lineno - node.lineno + 1, 40, (name, node.name))
            self.assertFalse(node.decorator_list, (name, node.name))
            given = node.args
            self.assertFalse(given.vararg or given.kwarg or given.kwonlyargs or given.posonlyargs, (name, node.name))

    def test_classes(self):
        for name, node in nodes(ast.ClassDef):
            self.assertLessEqual(len(node.bases), 1, (name, node.name))
            self.assertFalse(node.decorator_list or node.keywords, (name, node.name))
            self.assertTrue(all(isinstance(part, (ast.FunctionDef, ast.Pass)) for part in node.body),
                            (name, node.name))

    def test_statements(self):
        for name, tree in trees():
            for node in ast.walk(tree):
                where = (name, getattr(node, "lineno", 0))
                if isinstance(node, ast.stmt):
                    self.assertIsInstance(node, STATEMENTS, where)
                if isinstance(node, ast.Expr) and node is not tree.body[0]:
                    self.assertIsInstance(node.value, ast.Call, where)
                if isinstance(node, ast.Assign):
                    self.assertEqual(len(node.targets), 1, where)
                    self.assertNotIsInstance(node.targets[0], (ast.Tuple, ast.List), where)
                if isinstance(node, (ast.For, ast.While)):
                    self.assertFalse(node.orelse, where)

    def test_expressions(self):
        for name, node in nodes(ast.AST):
            where = (name, getattr(node, "lineno", 0))
            self.assertNotIsInstance(node, NOT_USED, where)
            if isinstance(node, ast.Constant):
                self.assertIn(type(node.value), (int, str, bool, type(None)), where)
                self.assertNotIn("%", str(node.value), where)
            if isinstance(node, ast.ListComp):
                self.assertEqual(len(node.generators), 1, where)
                self.assertLessEqual(len(node.generators[0].ifs), 1, where)
            if isinstance(node, ast.FormattedValue):
                self.assertIsInstance(node.value, ast.Name, where)
                self.assertIsNone(node.format_spec, where)
            if isinstance(node, ast.Compare) and any(isinstance(sign, (ast.Is, ast.IsNot)) for sign in node.ops):
                self.assertIsInstance(node.comparators[0], ast.Constant, where)

    def test_imports(self):
        for name, node in nodes(ast.ImportFrom):
            self.assertEqual(node.level, 0, name)
            self.assertRegex(node.module, r"^pathshape\.[a-z_]+$", name)
            source = PACKAGE / (node.module.split(".")[1] + ".py")
            defined = [bound for part in ast.parse(source.read_text()).body for inner in ast.walk(part)
                       for bound in bound_names(inner)]
            for alias in node.names:
                self.assertIn(alias.name, defined, name)
        self.assertEqual(nodes(ast.Import), [])

    def test_no_files_draw_from_one_another(self):
        drawn = drawn_from()
        while drawn:
            free = [name for name in drawn if not any(other in drawn for other in drawn[name])]
            self.assertTrue(free, drawn)
            drawn = {name: others for name, others in drawn.items() if name not in free}

    def test_walked_at_once(self):
        for name, node, parent in with_parents():
            if called(node) in ("zip", "enumerate", "reversed", "range", "items", "keys", "values"):
                walked = isinstance(parent, (ast.For, ast.comprehension)) and parent.iter is node
                first = called(parent) in ("list", "tuple", "dict", "sorted", "sum", "any", "all", "enumerate", "zip",
                                           "min", "max", "join") and parent.args[:1] == [node]
                self.assertTrue(walked or first, (name, node.lineno))
            if called(node) in ("set", "frozenset"):
                self.assertTrue(isinstance(parent, (ast.Compare, ast.BinOp)) or called(parent) in ("sorted", "len"),
                                (name, node.lineno))
            self.assertNotIsInstance(node, ast.Set, name)

    def test_locals_are_not_called_like_imports_or_classes(self):
        for name, tree in trees():
            taken = [alias.name for node in tree.body if isinstance(node, ast.ImportFrom) for alias in node.names]
            taken += [node.name for node in tree.body if isinstance(node, ast.ClassDef)]
            for node in ast.walk(tree):
                if not isinstance(node, ast.ClassDef):
                    self.assertFalse([bound for bound in bound_names(node) if bound in taken], name)

    def test_names(self):
        for name, node in nodes(ast.AST):
            for bound in bound_names(node):
                self.assertRegex(bound, r"^([A-Za-z][A-Za-z0-9_]*|__(init|eq|repr|str|len)__)$", name)
                self.assertFalse(python_own(bound), (name, bound))
            if isinstance(node, ast.Name) and python_own(node.id):
                self.assertIn(node.id, FREE_NAMES, name)

    def test_methods(self):
        own = [node.name for name, node in nodes(ast.FunctionDef)]
        for name, node in nodes(ast.Call):
            if isinstance(node.func, ast.Attribute):
                self.assertIn(node.func.attr, PYTHON_METHODS + own, (name, node.lineno))

    def test_values_of_objects(self):
        own = [part.name for name, node in nodes(ast.ClassDef) for part in node.body
               if isinstance(part, ast.FunctionDef) and part.name != "__init__"]
        kept = [(name, node.attr) for name, node in nodes(ast.Attribute) if isinstance(node.ctx, ast.Store)]
        for name, value in kept:
            self.assertNotIn(value, own, name)
        for value in own + [value for name, value in kept]:
            if value not in FREE_VALUES:
                self.assertFalse([one for one in PYTHON_VALUES if hasattr(one, value)], value)

    def test_methods_are_not_handed_on(self):
        own = [node.name for name, node in nodes(ast.FunctionDef)]
        for name, node, parent in with_parents():
            if isinstance(node, ast.Attribute) and node.attr in PYTHON_METHODS + own:
                self.assertTrue(isinstance(parent, ast.Call) and parent.func is node, (name, node.lineno))

    def test_keywords(self):
        free = {"sorted": ["key", "reverse"], "min": ["key", "default"], "max": ["key", "default"]}
        for name, node in nodes(ast.Call):
            for word in node.keywords:
                self.assertIn(word.arg, free.get(called(node), []), (name, node.lineno))

    def test_tops(self):
        for name, tree in trees():
            bound = [one for node in tree.body for one in (bound_names(node) or [
                inner.id for inner in ast.walk(node)
                if isinstance(node, ast.Assign) and isinstance(inner, ast.Name) and isinstance(inner.ctx, ast.Store)])]
            self.assertEqual(len(bound), len(set(bound)), name)
            for node in tree.body:
                self.assertIsInstance(node, (ast.Assign, ast.FunctionDef, ast.ClassDef, ast.ImportFrom, ast.Expr))


if __name__ == "__main__":
    unittest.main()
