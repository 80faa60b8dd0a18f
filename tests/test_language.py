"""The package's files against those rules of LANGUAGE.md that a file's form shows plainly."""

import ast
import builtins
import os
import re
import unittest

PACKAGE = "creditworks"
FOLDER = os.path.join(os.path.dirname(os.path.dirname(os.path.abspath(__file__))), PACKAGE)

STATEMENTS = (ast.FunctionDef, ast.ClassDef, ast.ImportFrom, ast.Assign, ast.AugAssign, ast.If, ast.While, ast.For,
              ast.Return, ast.Break, ast.Continue, ast.Pass, ast.Raise, ast.Try, ast.Expr)
EXPRESSIONS = (ast.Constant, ast.Name, ast.List, ast.Tuple, ast.Dict, ast.Set, ast.BinOp, ast.UnaryOp, ast.BoolOp,
               ast.Compare, ast.IfExp, ast.Call, ast.Attribute, ast.Subscript, ast.Slice, ast.ListComp,
               ast.JoinedStr, ast.FormattedValue, ast.Lambda)
PYTHONS = set("""len range enumerate zip min max sum abs sorted reversed int str bool list tuple dict set frozenset
    isinstance ord repr any all divmod Exception ValueError TypeError KeyError IndexError LookupError
    ZeroDivisionError ArithmeticError OverflowError RuntimeError NotImplementedError AttributeError
    StopIteration""".split())
UNUSED_WORDS = """type typing typing_extensions enum Enum IntEnum StrEnum Flag IntFlag Generic Protocol ABC ABCMeta
    namedtuple NamedTuple TypedDict TYPE_CHECKING abstractmethod""".split()
UNUSED_PARTS = ("dataclass", "overload", "contextmanager")
UNUSED_NAMES = set("""register mro elements open input version_info with_traceback add_note format format_map
    attrgetter breakpoint builtins compile copyright credits delattr dir eval exec exit gc getattr globals hasattr
    help id importlib license locals methodcaller os quit setattr super vars sys chr""".split())
DUNDERS = ("__init__", "__eq__", "__repr__", "__str__", "__len__")
METHODS = set("""append clear copy count endswith extend find get index insert isalnum isalpha isdigit islower isspace
    isupper items join keys ljust lower lstrip partition pop remove replace reverse rfind rjust rpartition rsplit
    rstrip setdefault split splitlines startswith strip update upper values zfill bit_length""".split())
WALKED = ("zip", "enumerate", "reversed", "range")
WALKERS = ("list", "tuple", "dict", "sorted", "sum", "any", "all", "enumerate", "zip", "min", "max")


def package_files():
    return sorted(name for name in os.listdir(FOLDER) if name != "__pycache__")


def text_of(name):
    with open(os.path.join(FOLDER, name), encoding="utf-8", newline="") as file:
        return file.read()


def trees():
    return [(name, ast.parse(text_of(name))) for name in package_files()]


def own_methods():
    return {part.name for name, tree in trees() for node in ast.walk(tree) if isinstance(node, ast.ClassDef)
            for part in node.body if isinstance(part, ast.FunctionDef)}


def called(node):
    return node.func.id if isinstance(node, ast.Call) and isinstance(node.func, ast.Name) else None


def bound_at_top(tree):
    told = []
    for part in tree.body:
        if isinstance(part, (ast.FunctionDef, ast.ClassDef)):
            told.append(part.name)
        elif isinstance(part, ast.ImportFrom):
            told.extend(alias.name for alias in part.names)
        elif isinstance(part, ast.Assign):
            told.extend(target.id for target in part.targets)
    return told


def names_in(tree):
    told = []
    for node in ast.walk(tree):
        if isinstance(node, ast.Name):
            told.append(node.id)
        elif isinstance(node, ast.Attribute):
            told.append(node.attr)
        elif isinstance(node, ast.arg):
            told.append(node.arg)
        elif isinstance(node, (ast.FunctionDef, ast.ClassDef)):
            told.append(node.name)
    return told


class Files(unittest.TestCase):
    def test_plain_files_alone(self):
        self.assertIn("__init__.py", package_files())
        for name in package_files():
            self.assertRegex(name, r"\A(__init__|[a-z][a-z0-9_]*)\.py\Z")

    def test_signs_and_sizes(self):
        for name in package_files():
            text = text_of(name)
            self.assertRegex(text, r"\A[ -~\n]*\Z", name)
            lines = text.split("\n")
            self.assertLessEqual(len(lines), 400, name)
            self.assertLessEqual(max(len(line) for line in lines), 120, name)

    def test_words_that_stand_nowhere(self):
        for name in package_files():
            text = text_of(name)
            for word in UNUSED_WORDS:
                self.assertIsNone(re.search(rf"\b{word}\b", text), (name, word))
            for part in UNUSED_PARTS:
                self.assertNotIn(part, text, name)


class Forms(unittest.TestCase):
    def test_statements_and_expressions(self):
        for name, tree in trees():
            for node in ast.walk(tree):
                if isinstance(node, ast.stmt):
                    self.assertIsInstance(node, STATEMENTS, name)
                if isinstance(node, ast.expr):
                    self.assertIsInstance(node, EXPRESSIONS, name)
                self.hold_form(name, node)

    def hold_form(self, name, node):
        where = (name, getattr(node, "lineno", 0))
        if isinstance(node, (ast.For, ast.While)):
            self.assertEqual(node.orelse, [], where)
        if isinstance(node, ast.Assign):
            self.assertEqual(len(node.targets), 1, where)
        if isinstance(node, ast.Constant):
            self.assertNotIsInstance(node.value, (float, complex, bytes), where)
            self.assertFalse(isinstance(node.value, str) and "%" in node.value, where)
        if isinstance(node, ast.BinOp):
            self.assertNotIsInstance(node.op, (ast.Div, ast.MatMult), where)
            if isinstance(node.op, ast.Pow):
                self.assertIsInstance(node.right, ast.Constant, where)
        if isinstance(node, ast.Compare) and isinstance(node.ops[0], (ast.Is, ast.IsNot)):
            self.assertIn(ast.unparse(node.comparators[0]), ("None", "True", "False"), where)
        if isinstance(node, ast.Try):
            self.assertEqual(node.finalbody, [], where)
        if isinstance(node, (ast.FunctionDef, ast.ClassDef)):
            self.assertEqual(node.decorator_list, [], where)
            self.assertLessEqual(node.end_lineno - node.lineno + 1, 40 if isinstance(node, ast.FunctionDef) else 400)

    def test_bare_expressions_are_calls_or_the_docstring(self):
        for name, tree in trees():
            self.assertIsNotNone(ast.get_docstring(tree), name)
            for node in ast.walk(tree):
                if isinstance(node, ast.Expr) and node is not tree.body[0]:
                    self.assertIsInstance(node.value, ast.Call, (name, node.lineno))

    def test_walked_at_once(self):
        for name, tree in trees():
            walked = []
            for node in ast.walk(tree):
                if isinstance(node, (ast.For, ast.comprehension)):
                    walked.append(node.iter)
                elif called(node) in WALKERS and node.args:
                    walked.extend(node.args if called(node) == "zip" else node.args[:1])
            for node in ast.walk(tree):
                if called(node) in WALKED:
                    self.assertIn(node, walked, (name, node.lineno))

    def test_what_stands_at_the_top(self):
        for name, tree in trees():
            for part in tree.body[1:]:
                self.assertIsInstance(part, (ast.ImportFrom, ast.FunctionDef, ast.ClassDef, ast.Assign), name)
                if isinstance(part, ast.Assign):
                    for node in ast.walk(part.value):
                        self.assertNotIsInstance(node, (ast.Call, ast.Set, ast.Lambda), (name, part.lineno))

    def test_errors_taken_are_named(self):
        for name, tree in trees():
            for node in ast.walk(tree):
                if isinstance(node, ast.ExceptHandler):
                    self.assertIsNotNone(node.type, (name, node.lineno))
                    self.assertNotIn(ast.unparse(node.type), ("Exception", "TypeError"), (name, node.lineno))

    def test_parameters(self):
        for name, tree in trees():
            for node in ast.walk(tree):
                if isinstance(node, ast.arguments):
                    self.assertEqual((node.vararg, node.kwarg, node.kwonlyargs, node.posonlyargs), (None, None, [], []))

    def test_class_bodies_hold_methods_or_pass(self):
        for name, tree in trees():
            for node in ast.walk(tree):
                if isinstance(node, ast.ClassDef):
                    self.assertLessEqual(len(node.bases), 1, name)
                    for part in node.body:
                        self.assertIsInstance(part, (ast.FunctionDef, ast.Pass), (name, part.lineno))


class Names(unittest.TestCase):
    def test_plain_and_used_ones(self):
        for name, tree in trees():
            for word in names_in(tree):
                if word not in DUNDERS:
                    self.assertRegex(word, r"\A[A-Za-z][A-Za-z0-9_]*\Z", name)
                self.assertNotIn(word, UNUSED_NAMES, name)

    def test_of_pythons_own_those_listed_alone(self):
        for name, tree in trees():
            for node in ast.walk(tree):
                if isinstance(node, ast.Name) and hasattr(builtins, node.id):
                    self.assertIn(node.id, PYTHONS, (name, node.lineno))
                    self.assertIsInstance(node.ctx, ast.Load, (name, node.lineno))
                if isinstance(node, ast.arg):
                    self.assertFalse(hasattr(builtins, node.arg), (name, node.lineno))

    def test_imports_from_the_very_file(self):
        defined = {name[:-3]: [part.name for part in tree.body if isinstance(part, (ast.FunctionDef, ast.ClassDef))]
                   for name, tree in trees()}
        for name, tree in trees():
            for node in ast.walk(tree):
                if isinstance(node, ast.ImportFrom):
                    self.assertEqual(node.level, 0, name)
                    package, dot, module = node.module.partition(".")
                    self.assertEqual((package, dot), (PACKAGE, "."), name)
                    for alias in node.names:
                        self.assertIn(alias.name, defined[module], name)

    def test_no_two_files_draw_from_one_another(self):
        drawn = {name[:-3]: [node.module.partition(".")[2] for node in tree.body if isinstance(node, ast.ImportFrom)]
                 for name, tree in trees()}
        while drawn:
            free = [name for name in drawn if not any(other in drawn for other in drawn[name])]
            self.assertNotEqual(free, [], sorted(drawn))
            for name in free:
                drawn.pop(name)

    def test_each_name_is_bound_once_at_the_top(self):
        for name, tree in trees():
            bound = bound_at_top(tree)
            self.assertEqual(len(bound), len(set(bound)), name)

    def test_no_local_is_called_like_a_name_of_the_top_or_of_pythons_own(self):
        for name, tree in trees():
            taken = set(bound_at_top(tree)) | set(dir(builtins))
            for part in ast.walk(tree):
                if isinstance(part, (ast.FunctionDef, ast.Lambda, ast.ListComp)):
                    for node in ast.walk(part):
                        if isinstance(node, ast.arg):
                            self.assertNotIn(node.arg, taken, (name, node.lineno))
                        if isinstance(node, ast.Name) and isinstance(node.ctx, ast.Store):
                            self.assertNotIn(node.id, taken, (name, node.lineno))

    def test_methods_are_listed_or_the_packages_own_and_called_on_the_spot(self):
        methods = own_methods()
        for name, tree in trees():
            called_ones = [node.func for node in ast.walk(tree) if isinstance(node, ast.Call)]
            for node in ast.walk(tree):
                if isinstance(node, ast.Attribute) and node in called_ones:
                    self.assertIn(node.attr, METHODS | methods, (name, node.lineno))
                elif isinstance(node, ast.Attribute):
                    self.assertNotIn(node.attr, METHODS | methods, (name, node.lineno))

    def test_no_name_is_a_method_and_a_value(self):
        methods, values = set(), set()
        for name, tree in trees():
            for node in ast.walk(tree):
                if isinstance(node, ast.ClassDef):
                    methods.update(part.name for part in node.body if isinstance(part, ast.FunctionDef))
                if isinstance(node, ast.Attribute) and isinstance(node.ctx, ast.Store):
                    values.add(node.attr)
        self.assertEqual(methods & values, set())


if __name__ == "__main__":
    unittest.main()
