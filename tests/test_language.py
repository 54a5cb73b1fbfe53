"""The rules of LANGUAGE.md that a look at the package's files can decide.

Each test names its rules. What it cannot see (L19's bodies, L23, L24, ..) is left
to the reader.
"""

import ast
import builtins
import os
import re
import unittest
import warnings

ROOT = os.path.dirname(os.path.dirname(os.path.abspath(__file__)))
PACKAGE = os.path.join(ROOT, "waitnumbers")

DUNDERS = {
    "__init__", "__eq__", "__repr__", "__str__", "__len__", "__enter__", "__exit__", "__call__",
    "__iter__", "__bool__", "__contains__",
}
BUILTINS = {
    "len", "range", "enumerate", "zip", "min", "max", "sum", "abs", "sorted", "reversed", "int", "str",
    "bool", "bytes", "list", "tuple", "dict", "set", "isinstance", "ord", "repr", "any", "all", "divmod",
    "iter", "next", "super", "property", "classmethod", "staticmethod",
    "Exception", "ValueError", "TypeError", "KeyError", "IndexError", "LookupError", "ZeroDivisionError",
    "OverflowError", "RuntimeError", "NotImplementedError",
}
BUILTIN_METHODS = set(
    "append clear copy count endswith extend find get index insert isalnum isalpha isdigit islower isspace "
    "isupper items join keys ljust lower lstrip partition pop remove replace reverse rfind rjust rpartition "
    "rsplit rstrip setdefault split splitlines startswith strip update upper values zfill bit_length "
    "isascii".split()
)
FORBIDDEN_NAMES = set(
    "register mro elements open input law version_info with_traceback add_note attrgetter breakpoint builtins "
    "compile copyright credits delattr dir eval exec exit gc getattr globals hasattr help id importlib license "
    "locals methodcaller os quit setattr type vars sys format format_map".split()
)
FORBIDDEN_WORDS = set(
    "type typing typing_extensions enum Enum IntEnum StrEnum Flag IntFlag Generic Protocol ABC ABCMeta "
    "namedtuple NamedTuple TypedDict TYPE_CHECKING abstractmethod".split()
)
FORBIDDEN_NODES = (
    ast.Global, ast.AsyncFunctionDef, ast.AsyncFor, ast.AsyncWith, ast.Await, ast.Div, ast.MatMult,
    ast.Yield, ast.YieldFrom, ast.AnnAssign,
)


def files():
    return sorted(name for name in os.listdir(PACKAGE) if name != "__pycache__")


def text_of(name):
    with open(os.path.join(PACKAGE, name), encoding="utf-8", newline="") as held:
        return held.read()


def nodes(*kinds):
    for name in files():
        for node in ast.walk(ast.parse(text_of(name))):
            if isinstance(node, kinds):
                yield name, node


class Files(unittest.TestCase):
    def test_names_and_sizes(self):
        """L1, L10, L14."""
        for name in files():
            self.assertTrue(re.fullmatch(r"(__init__|[a-z][a-z0-9_]*)\.py", name), name)
            lines = text_of(name).split("\n")
            self.assertLessEqual(len(lines), 400, name)
            for line in lines:
                self.assertLessEqual(len(line), 120, line)
                self.assertTrue(all(" " <= sign <= "~" for sign in line), line)
        for name, node in nodes(ast.FunctionDef):
            self.assertLessEqual(node.end_lineno - node.lineno + 1, 40, node.name)

    def test_words(self):
        """L17."""
        for name in files():
            words = set(re.findall(r"\w+", text_of(name)))
            self.assertEqual(words & FORBIDDEN_WORDS, set(), name)

    def test_no_warnings(self):
        """L27."""
        for name in files():
            with warnings.catch_warnings():
                warnings.simplefilter("error")
                compile(text_of(name), name, "exec")


class Imports(unittest.TestCase):
    def test_form(self):
        """L2, L16: each name from the very file that defines it."""
        self.assertEqual([node for name, node in nodes(ast.Import)], [])
        for name, node in nodes(ast.ImportFrom):
            self.assertEqual(node.level, 0)
            package, module = node.module.split(".")
            self.assertEqual(package, "waitnumbers")
            tree = ast.parse(text_of(module + ".py"))
            defined = [part.name for part in tree.body if isinstance(part, (ast.FunctionDef, ast.ClassDef))]
            defined += [part.targets[0].id for part in tree.body if isinstance(part, ast.Assign)]
            for alias in node.names:
                self.assertIsNone(alias.asname)
                self.assertIn(alias.name, defined)

    def test_no_circles(self):
        """L16."""
        wants = {name[:-3]: set() for name in files()}
        for name, node in nodes(ast.ImportFrom):
            wants[name[:-3]].add(node.module.split(".")[1])
        while wants:
            ready = [name for name in wants if not wants[name]]
            self.assertNotEqual(ready, [], wants)
            wants = {name: wants[name] - set(ready) for name in wants if name not in ready}


class Names(unittest.TestCase):
    def bound(self):
        for name, node in nodes(ast.FunctionDef, ast.ClassDef):
            yield name, node.name
        for name, node in nodes(ast.arg):
            yield name, node.arg
        for name, node in nodes(ast.Name):
            if isinstance(node.ctx, ast.Store):
                yield name, node.id
        for name, node in nodes(ast.ExceptHandler):
            if node.name:
                yield name, node.name

    def test_bound_names(self):
        """L8, L12, L15, L17."""
        methods = {node.name for name, node in self.methods()}
        for name, bound in self.bound():
            if bound in DUNDERS:
                continue
            self.assertTrue(re.fullmatch(r"[A-Za-z][A-Za-z0-9_]*", bound), bound)
            self.assertNotIn(bound, FORBIDDEN_NAMES)
            self.assertTrue(bound in methods or bound not in dir(builtins), bound)
            self.assertNotIn(bound, BUILTINS)

    def methods(self):
        for name, node in nodes(ast.ClassDef):
            for part in node.body:
                if isinstance(part, ast.FunctionDef):
                    yield node, part

    def test_methods_and_attributes(self):
        """L18: no name is a method in one class and an attribute in another; L26."""
        methods = {part.name for node, part in self.methods()}
        stored = {node.attr for name, node in nodes(ast.Attribute) if isinstance(node.ctx, ast.Store)}
        read = {node.attr for name, node in nodes(ast.Attribute) if isinstance(node.ctx, ast.Load)}
        classes = {"MOST_PROCESSES", "MOST_NUMBERS"}
        self.assertEqual(methods & stored, set())
        self.assertEqual(read - methods - stored - BUILTIN_METHODS - classes - {"__init__"}, set())
        known = {word for value in ("", 0, [], {}, set(), b"") for word in dir(value)} - BUILTIN_METHODS
        self.assertEqual((methods | stored) & (known - DUNDERS - {"add", "discard"}), set())
        for node, part in self.methods():
            if part.name.startswith("_"):
                self.assertIn(part.name, DUNDERS)

    def test_no_method_twice(self):
        """L18."""
        for name, node in nodes(ast.ClassDef):
            names = [part.name for part in node.body if isinstance(part, ast.FunctionDef)]
            self.assertEqual(len(names), len(set(names)), node.name)

    def test_builtins(self):
        """L8: no other builtin is used."""
        for name, node in nodes(ast.Name):
            if node.id in dir(builtins) and isinstance(node.ctx, ast.Load):
                self.assertIn(node.id, BUILTINS, name)

    def test_imports_are_not_hidden(self):
        """L15: no parameter or variable has the name of a class or an import of its file."""
        for name in files():
            tree = ast.parse(text_of(name))
            top = {node.name for node in tree.body if isinstance(node, ast.ClassDef)}
            for node in tree.body:
                if isinstance(node, ast.ImportFrom):
                    top |= {alias.name for alias in node.names}
            for node in ast.walk(tree):
                if isinstance(node, ast.arg):
                    self.assertNotIn(node.arg, top)
                if isinstance(node, ast.Name) and isinstance(node.ctx, ast.Store):
                    self.assertNotIn(node.id, top)


class Statements(unittest.TestCase):
    def test_forbidden(self):
        """L6, L7, L8: no such statement or sign."""
        self.assertEqual([(name, node) for name, node in nodes(*FORBIDDEN_NODES)], [])
        for name, node in nodes(ast.Constant):
            self.assertNotIsInstance(node.value, float)

    def test_is(self):
        """L20."""
        for name, node in nodes(ast.Compare):
            for sign, right in zip(node.ops, node.comparators):
                if isinstance(sign, (ast.Is, ast.IsNot)):
                    self.assertIsInstance(right, ast.Constant)
                    self.assertIn(repr(right.value), ("None", "True", "False"))

    def test_strings(self):
        """L27."""
        for name, node in nodes(ast.Constant):
            if isinstance(node.value, str):
                self.assertNotIn(chr(37), node.value)
                self.assertFalse(node.value.endswith(("._", ".__")))

    def test_raise(self):
        """L19: raise creates its error on the spot."""
        for name, node in nodes(ast.Raise):
            self.assertIsInstance(node.exc, ast.Call)
            self.assertIsInstance(node.exc.func, ast.Name)

    def test_module_level(self):
        """L3: docstrings, imports, functions, classes and plain values."""
        plain = (ast.Constant, ast.Tuple, ast.Dict, ast.List, ast.Name, ast.Load)
        for name in files():
            for node in ast.parse(text_of(name)).body:
                if isinstance(node, ast.Assign):
                    self.assertTrue(all(isinstance(part, plain) for part in ast.walk(node.value)), name)
                elif isinstance(node, ast.Expr):
                    self.assertIsInstance(node.value.value, str)
                else:
                    self.assertIsInstance(node, (ast.ImportFrom, ast.FunctionDef, ast.ClassDef))

    def test_lists_where_a_class_has_an_operator(self):
        """L5: sum, min, max, sorted, any and all take a list instead of a generator expression."""
        self.assertEqual([name for name, node in nodes(ast.GeneratorExp)], [])

    def test_handlers(self):
        """L19: only own errors are caught."""
        own = {node.name for name, node in nodes(ast.ClassDef) if name == "errors.py"}
        for name, node in nodes(ast.ExceptHandler):
            caught = node.type.elts if isinstance(node.type, ast.Tuple) else [node.type]
            for part in caught:
                self.assertIn(part.id, own)


if __name__ == "__main__":
    unittest.main()
