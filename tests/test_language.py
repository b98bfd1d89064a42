"""The form that ../shared/LANGUAGE.md asks of the package's files, as far as it can be read off them."""

import ast
import builtins
import pathlib
import re
import unittest

FOLDER = pathlib.Path(__file__).resolve().parent.parent / "throng"
FILES = sorted(FOLDER.glob("**/*.py"))

STATEMENTS = (ast.FunctionDef, ast.ClassDef, ast.Assign, ast.AugAssign, ast.If, ast.While, ast.For, ast.Return,
              ast.Break, ast.Continue, ast.Pass, ast.Raise, ast.Try, ast.Expr, ast.ImportFrom)
EXPRESSIONS = (ast.Constant, ast.Name, ast.List, ast.Tuple, ast.Dict, ast.BinOp, ast.UnaryOp, ast.BoolOp, ast.Compare,
               ast.IfExp, ast.Call, ast.Attribute, ast.Subscript, ast.Slice, ast.ListComp, ast.JoinedStr,
               ast.FormattedValue, ast.Lambda)
OWN_NAMES = set("""len range enumerate zip min max sum abs sorted reversed int str bool list tuple dict set frozenset
    isinstance ord repr any all divmod Exception ValueError TypeError KeyError IndexError LookupError
    ZeroDivisionError ArithmeticError OverflowError RuntimeError NotImplementedError AttributeError
    StopIteration""".split())
METHODS = set("""append clear copy count endswith extend find get index insert isalnum isalpha isdigit islower isspace
    isupper items join keys ljust lower lstrip partition pop remove replace reverse rfind rjust rpartition rsplit
    rstrip setdefault split splitlines startswith strip update upper values zfill bit_length""".split())
SPECIAL = {"__init__", "__eq__", "__repr__", "__str__", "__len__"}
NOWHERE = {"register", "mro", "elements", "open", "input", "version_info", "with_traceback", "add_note", "format",
           "format_map"}
WORDS = """type typing typing_extensions enum Enum IntEnum StrEnum Flag IntFlag Generic Protocol ABC ABCMeta namedtuple
    NamedTuple TypedDict TYPE_CHECKING abstractmethod""".split()
WITHIN_WORDS = ["dataclass", "overload", "contextmanager"]
WALKED = {"zip", "enumerate", "reversed", "range"}
WALKERS = {"list", "tuple", "dict", "sorted", "sum", "any", "all", "enumerate", "zip", "min", "max"}
WALKED_METHODS = {"items", "keys", "values"}
KEYWORDS = {"sorted": {"key", "reverse"}, "min": {"key", "default"}, "max": {"key", "default"}, "sum": {"start"},
            "enumerate": {"start"}, "zip": {"strict"}}


def parsed(path):
    tree = ast.parse(path.read_text(encoding="utf-8"))
    for node in ast.walk(tree):
        for child in ast.iter_child_nodes(node):
            child.parent = node
    return tree


def is_docstring(node):
    return isinstance(node, ast.Expr) and isinstance(node.value, ast.Constant) and isinstance(node.value.value, str)


def bound_names(tree):
    """Every name that a file binds, with its node."""
    for node in ast.walk(tree):
        if isinstance(node, ast.Name) and isinstance(node.ctx, ast.Store):
            yield node.id, node
        elif isinstance(node, ast.arg):
            yield node.arg, node
        elif isinstance(node, (ast.FunctionDef, ast.ClassDef)):
            yield node.name, node
        elif isinstance(node, ast.ExceptHandler) and node.name:
            yield node.name, node


class Language(unittest.TestCase):
    def each(self):
        self.assertTrue(FILES)
        for path in FILES:
            tree = parsed(path)
            for node in ast.walk(tree):
                yield path.name, tree, node, (path.name, getattr(node, "lineno", 0))

    def own_methods(self):
        return {node.name for name, tree, node, spot in self.each()
                if isinstance(node, ast.FunctionDef) and isinstance(node.parent, ast.ClassDef)}

    def test_files_and_signs(self):
        for path in FOLDER.rglob("*"):
            if "__pycache__" not in path.parts:
                self.assertRegex(path.name, r"^[a-z0-9_]+\.py$")
        self.assertIn(FOLDER / "__init__.py", FILES)
        for path in FILES:
            text = path.read_bytes().decode("utf-8")
            self.assertRegex(text, r"\A[ -~\n]*\Z", path.name)
            lines = text.split("\n")
            self.assertLessEqual(len(lines), 400, path.name)
            self.assertLessEqual(max(len(line) for line in lines), 120, path.name)
            for word in WORDS:
                self.assertIsNone(re.search(r"\b" + word + r"\b", text), (path.name, word))
            for word in WITHIN_WORDS:
                self.assertNotIn(word, text, path.name)

    def test_imports(self):
        defined = {}
        drawn = {}
        for path in FILES:
            tree = parsed(path)
            module = "throng." + path.stem
            defined[module] = {node.name for node in tree.body if isinstance(node, (ast.FunctionDef, ast.ClassDef))}
            defined[module] |= {node.targets[0].id for node in tree.body if isinstance(node, ast.Assign)}
            drawn[module] = [node for node in ast.walk(tree) if isinstance(node, ast.ImportFrom)]
        for module, nodes in drawn.items():
            for node in nodes:
                self.assertEqual(node.level, 0)
                self.assertIsInstance(node.parent, ast.Module)
                for alias in node.names:
                    self.assertIsNone(alias.asname)
                    self.assertIn(alias.name, defined[node.module], module)
        left = {module: {node.module for node in nodes} for module, nodes in drawn.items()}
        while left:
            free = [module for module in left if not left[module] & set(left)]
            self.assertTrue(free, ("files draw from one another", sorted(left)))
            left = {module: left[module] for module in left if module not in free}

    def test_statements_and_expressions(self):
        for name, tree, node, spot in self.each():
            if isinstance(node, ast.stmt):
                self.assertIsInstance(node, STATEMENTS, spot)
            if isinstance(node, ast.expr):
                self.assertIsInstance(node, EXPRESSIONS, spot)
            if isinstance(node, ast.Expr):
                first = isinstance(node.parent, ast.Module) and node == tree.body[0]
                self.assertTrue(isinstance(node.value, ast.Call) or first and is_docstring(node), spot)
            if isinstance(node, ast.Assign):
                self.assertEqual(len(node.targets), 1, spot)
                self.assertIsInstance(node.targets[0], (ast.Name, ast.Attribute, ast.Subscript), spot)
            if isinstance(node, (ast.For, ast.While)):
                self.assertEqual(node.orelse, [], spot)
            if isinstance(node, ast.ListComp):
                self.assertEqual(len(node.generators), 1, spot)
                self.assertLessEqual(len(node.generators[0].ifs), 1, spot)
            if isinstance(node, (ast.Div, ast.MatMult)):
                self.fail(spot)
            if isinstance(node, ast.BinOp) and isinstance(node.op, ast.Pow):
                self.assertIsInstance(node.right, ast.Constant, spot)
            if isinstance(node, ast.Constant):
                self.assertNotIsInstance(node.value, (float, complex, bytes), spot)
                self.assertNotIn("%", node.value if isinstance(node.value, str) else "", spot)
            if isinstance(node, ast.Compare) and any(isinstance(op, (ast.Is, ast.IsNot)) for op in node.ops):
                self.assertIn(getattr(node.comparators[0], "value", 0), (None, True, False), spot)
                self.assertIsInstance(node.comparators[0], ast.Constant, spot)

    def test_functions_and_classes(self):
        for name, tree, node, spot in self.each():
            if isinstance(node, ast.FunctionDef):
                self.assertLessEqual(node.end_lineno - node.lineno + 1, 40, spot)
                self.assertEqual(node.decorator_list, [], spot)
                self.assertIsNone(node.returns, spot)
                given = node.args
                self.assertEqual((given.vararg, given.kwarg, given.kwonlyargs, given.posonlyargs),
                                 (None, None, [], []), spot)
                for parameter in given.args:
                    self.assertIsNone(parameter.annotation, spot)
            if isinstance(node, ast.ClassDef):
                self.assertIsInstance(node.parent, ast.Module, spot)
                self.assertEqual((node.decorator_list, node.keywords), ([], []), spot)
                self.assertLessEqual(len(node.bases), 1, spot)
                for part in node.body:
                    self.assertIsInstance(part, (ast.FunctionDef, ast.Pass), spot)
            if isinstance(node, ast.Module):
                for part in node.body:
                    self.assertTrue(is_docstring(part) or isinstance(
                        part, (ast.ImportFrom, ast.FunctionDef, ast.ClassDef, ast.Assign)), name)

    def test_names(self):
        python = set(dir(builtins))
        for name, tree, node, spot in self.each():
            if isinstance(node, ast.Name) and isinstance(node.ctx, ast.Load) and node.id in python:
                self.assertIn(node.id, OWN_NAMES, spot)
        for path in FILES:
            tree = parsed(path)
            taken = {alias.name for node in tree.body if isinstance(node, ast.ImportFrom) for alias in node.names}
            classes = {node.name for node in tree.body if isinstance(node, ast.ClassDef)}
            for word, node in bound_names(tree):
                spot = (path.name, node.lineno, word)
                method = isinstance(node, ast.FunctionDef) and isinstance(node.parent, ast.ClassDef)
                self.assertTrue(re.match(r"^[A-Za-z][A-Za-z0-9_]*$", word) or method and word in SPECIAL, spot)
                self.assertNotIn(word, NOWHERE, spot)
                self.assertNotIn(word, taken, spot)
                if not method:
                    self.assertNotIn(word, python, spot)
                if not isinstance(node, ast.ClassDef):
                    self.assertNotIn(word, classes, spot)

    def test_methods_and_values(self):
        own = self.own_methods()
        stored = set()
        for name, tree, node, spot in self.each():
            if isinstance(node, ast.Attribute):
                self.assertNotIn(node.attr, NOWHERE, spot)
                if isinstance(node.ctx, ast.Store):
                    stored.add(node.attr)
                if isinstance(node.parent, ast.Call) and node.parent.func == node:
                    self.assertTrue(node.attr in METHODS or node.attr in own, spot)
        self.assertEqual(own & stored, set())
        python = {name for kind in (str, int, list, dict, set, bytes, tuple) for name in dir(kind)}
        self.assertEqual((own - SPECIAL | stored) & python, set())

    def test_sets_and_walks(self):
        for name, tree, node, spot in self.each():
            if not isinstance(node, ast.Call):
                continue
            above = node.parent
            caller = above.func.id if isinstance(above, ast.Call) and isinstance(above.func, ast.Name) else ""
            called = node.func.id if isinstance(node.func, ast.Name) else ""
            method = node.func.attr if isinstance(node.func, ast.Attribute) else ""
            if called in ("set", "frozenset"):
                beside = isinstance(above, (ast.Compare, ast.BinOp))
                self.assertTrue(caller in ("sorted", "len") and not above.keywords or beside, spot)
            if called in WALKED or method in WALKED_METHODS:
                walked = isinstance(above, (ast.For, ast.comprehension)) and above.iter == node
                self.assertTrue(walked or caller in WALKERS, spot)

    def test_keywords(self):
        for name, tree, node, spot in self.each():
            if isinstance(node, ast.Call):
                called = getattr(node.func, "id", getattr(node.func, "attr", ""))
                if called in OWN_NAMES or called in METHODS:
                    self.assertLessEqual({keyword.arg for keyword in node.keywords}, KEYWORDS.get(called, set()), spot)

    def test_errors(self):
        refusals = {node.name for node in parsed(FOLDER / "errors.py").body if isinstance(node, ast.ClassDef)}
        for name, tree, node, spot in self.each():
            if isinstance(node, ast.Raise):
                self.assertIsInstance(node.exc, ast.Call, spot)
                self.assertIn(node.exc.func.id, refusals, spot)
                self.assertEqual(node.exc.keywords, [], spot)
            if isinstance(node, ast.ExceptHandler):
                self.assertIsNotNone(node.type, spot)
                taken = node.type.elts if isinstance(node.type, ast.Tuple) else [node.type]
                self.assertFalse({kind.id for kind in taken} & {"Exception", "TypeError"}, spot)
