"""The package's files against those rules of LANGUAGE.md that a file's form shows plainly."""

import ast
import builtins
import os
import re
import unittest

PACKAGE = "creditworks"
FOLDER = os.path.join(os.path.dirname(os.path.dirname(os.path.abspath(__file__))), PACKAGE)

STATEMENTS = (ast.FunctionDef, ast.ClassDef, ast.ImportFrom, ast.Assign, ast.AugAssign, ast.If, ast.While, ast.For,
              ast.Return, ast.Break, ast.Continue, ast.Pass, ast.Raise, ast.Try, ast.Expr)
EXPRESSIONS = (ast.Constant, ast.Name, ast.List, ast.Tuple, ast.Dict, ast.Set, ast.BinOp, ast.UnaryOp, ast.BoolOp,
               ast.Compare, ast.IfExp, ast.Call, ast.Attribute, ast.Subscript, ast.Slice, ast.ListComp,
               ast.JoinedStr, ast.FormattedValue, ast.Lambda)
PYTHONS = set("""len range enumerate zip min max sum abs sorted reversed int str bool list tuple dict set frozenset
    isinstance ord repr any all divmod Exception ValueError TypeError KeyError IndexError LookupError
    ZeroDivisionError ArithmeticError OverflowError RuntimeError NotImplementedError AttributeError
    StopIteration""".split())
UNUSED_WORDS = """type typing typing_extensions enum Enum IntEnum StrEnum Flag IntFlag Generic Protocol ABC ABCMeta
    namedtuple NamedTuple TypedDict TYPE_CHECKING abstractmethod""".split()
UNUSED_PARTS = ("dataclass", "overload", "contextmanager")
UNUSED_NAMES = set("""register mro elements open input version_info with_traceback add_note format format_map
    attrgetter breakpoint builtins compile copyright credits delattr dir eval exec exit gc getattr globals hasattr
    help id importlib license locals methodcaller os quit setattr super vars sys chr""".split())
DUNDERS = ("__init__", "__eq__", "__repr__", "__str__", "__len__")


def package_files():
    return sorted(name for name in os.listdir(FOLDER) if name != "__pycache__")


def text_of(name):
    with open(os.path.join(FOLDER, name), encoding="utf-8", newline="") as file:
        return file.read()


def trees():
    return [(name, ast.parse(text_of(name))) for name in package_files()]


def names_in(tree):
    told = []
    for node in ast.walk(tree):
        if isinstance(node, ast.Name):
            told.append(node.id)
        elif isinstance(node, ast.Attribute):
            told.append(node.attr)
        elif isinstance(node, ast.arg):
            told.append(node.arg)
        elif isinstance(node, (ast.FunctionDef, ast.ClassDef)):
            told.append(node.name)
    return told


class Files(unittest.TestCase):
    def test_plain_files_alone(self):
        self.assertIn("__init__.py", package_files())
        for name in package_files():
            self.assertRegex(name, r"\A(__init__|[a-z][a-z0-9_]*)\.py\Z")

    def test_signs_and_sizes(self):
        for name in package_files():
            text = text_of(name)
            self.assertRegex(text, r"\A[ -~\n]*\Z", name)
            lines = text.split("\n")
            self.assertLessEqual(len(lines), 400, name)
            self.assertLessEqual(max(len(line) for line in lines), 120, name)

    def test_words_that_stand_nowhere(self):
        for name in package_files():
            text = text_of(name)
            for word in UNUSED_WORDS:
                self.assertIsNone(re.search(rf"\b{word}\b", text), (name, word))
            for part in UNUSED_PARTS:
                self.assertNotIn(part, text, name)


class Forms(unittest.TestCase):
    def test_statements_and_expressions(self):
        for name, tree in trees():
            for node in ast.walk(tree):
                if isinstance(node, ast.stmt):
                    self.assertIsInstance(node, STATEMENTS, name)
                if isinstance(node, ast.expr):
                    self.assertIsInstance(node, EXPRESSIONS, name)
                self.hold_form(name, node)

    def hold_form(self, name, node):
        where = (name, getattr(node, "lineno", 0))
        if isinstance(node, (ast.For, ast.While)):
            self.assertEqual(node.orelse, [], where)
        if isinstance(node, ast.Assign):
            self.assertEqual(len(node.targets), 1, where)
        if isinstance(node, ast.Constant):
            self.assertNotIsInstance(node.value, (float, complex, bytes), where)
            self.assertFalse(isinstance(node.value, str) and "%" in node.value, where)
        if isinstance(node, ast.BinOp):
            self.assertNotIsInstance(node.op, (ast.Div, ast.MatMult), where)
        if isinstance(node, ast.Compare) and isinstance(node.ops[0], (ast.Is, ast.IsNot)):
            self.assertIn(ast.unparse(node.comparators[0]), ("None", "True", "False"), where)
        if isinstance(node, ast.Try):
            self.assertEqual(node.finalbody, [], where)
        if isinstance(node, (ast.FunctionDef, ast.ClassDef)):
            self.assertEqual(node.decorator_list, [], where)
            self.assertLessEqual(node.end_lineno - node.lineno + 1, 40 if isinstance(node, ast.FunctionDef) else 400)

    def test_bare_expressions_are_calls_or_the_docstring(self):
        for name, tree in trees():
            self.assertIsNotNone(ast.get_docstring(tree), name)
            for node in ast.walk(tree):
                if isinstance(node, ast.Expr) and node is not tree.body[0]:
                    self.assertIsInstance(node.value, ast.Call, (name, node.lineno))

    def test_parameters(self):
        for name, tree in trees():
            for node in ast.walk(tree):
                if isinstance(node, ast.arguments):
                    self.assertEqual((node.vararg, node.kwarg, node.kwonlyargs, node.posonlyargs), (None, None, [], []))

    def test_class_bodies_hold_methods_or_pass(self):
        for name, tree in trees():
            for node in ast.walk(tree):
                if isinstance(node, ast.ClassDef):
                    self.assertLessEqual(len(node.bases), 1, name)
                    for part in node.body:
                        self.assertIsInstance(part, (ast.FunctionDef, ast.Pass), (name, part.lineno))


class Names(unittest.TestCase):
    def test_plain_and_used_ones(self):
        for name, tree in trees():
            for word in names_in(tree):
                if word not in DUNDERS:
                    self.assertRegex(word, r"\A[A-Za-z][A-Za-z0-9_]*\Z", name)
                self.assertNotIn(word, UNUSED_NAMES, name)

    def test_of_pythons_own_those_listed_alone(self):
        for name, tree in trees():
            for node in ast.walk(tree):
                if isinstance(node, ast.Name) and hasattr(builtins, node.id):
                    self.assertIn(node.id, PYTHONS, (name, node.lineno))
                    self.assertIsInstance(node.ctx, ast.Load, (name, node.lineno))
                if isinstance(node, ast.arg):
                    self.assertFalse(hasattr(builtins, node.arg), (name, node.lineno))

    def test_imports_from_the_very_file(self):
        defined = {name[:-3]: [part.name for part in tree.body if isinstance(part, (ast.FunctionDef, ast.ClassDef))]
                   for name, tree in trees()}
        for name, tree in trees():
            for node in ast.walk(tree):
                if isinstance(node, ast.ImportFrom):
                    self.assertEqual(node.level, 0, name)
                    package, dot, module = node.module.partition(".")
                    self.assertEqual((package, dot), (PACKAGE, "."), name)
                    for alias in node.names:
                        self.assertIn(alias.name, defined[module], name)

    def test_no_name_is_a_method_and_a_value(self):
        methods, values = set(), set()
        for name, tree in trees():
            for node in ast.walk(tree):
                if isinstance(node, ast.ClassDef):
                    methods.update(part.name for part in node.body if isinstance(part, ast.FunctionDef))
                if isinstance(node, ast.Attribute) and isinstance(node.ctx, ast.Store):
                    values.add(node.attr)
        self.assertEqual(methods & values, set())


if __name__ == "__main__":
    unittest.main()
