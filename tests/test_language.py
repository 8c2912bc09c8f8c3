"""The package keeps to the small part of Python that the rules L1 to L28 allow, as far as this file looks."""

import ast
import builtins
import os
import re
import unittest

TOP = os.path.dirname(os.path.dirname(os.path.abspath(__file__)))
PACKAGE = os.path.join(TOP, "knownholds")

STATEMENTS = (ast.Assign, ast.AugAssign, ast.If, ast.While, ast.For, ast.Return, ast.Break, ast.Continue,
              ast.Pass, ast.Raise, ast.Try, ast.Expr, ast.FunctionDef, ast.ClassDef, ast.ImportFrom)
EXPRESSIONS = (ast.Constant, ast.List, ast.Tuple, ast.Dict, ast.Set, ast.BinOp, ast.UnaryOp, ast.Compare,
               ast.BoolOp, ast.IfExp, ast.Call, ast.Attribute, ast.Subscript, ast.Slice, ast.ListComp,
               ast.JoinedStr, ast.FormattedValue, ast.Name, ast.Lambda)
ERRORS = ("Exception ValueError TypeError KeyError IndexError LookupError ZeroDivisionError ArithmeticError "
          "OverflowError RuntimeError NotImplementedError AttributeError StopIteration").split()
OWN_NAMES = ("len range enumerate zip min max sum abs sorted reversed int str bool list tuple dict set frozenset "
             "isinstance ord repr any all divmod").split() + ERRORS
METHODS = ("append clear copy count endswith extend find get index insert isalnum isalpha isdigit islower isspace "
           "isupper items join keys ljust lower lstrip partition pop remove replace reverse rfind rjust rpartition "
           "rsplit rstrip setdefault split splitlines startswith strip update upper values zfill bit_length").split()
DUNDERS = ("__init__", "__eq__", "__repr__", "__str__", "__len__")
WORDS_OUT = ("type typing typing_extensions enum Enum IntEnum StrEnum Flag IntFlag Generic Protocol ABC ABCMeta "
             "namedtuple NamedTuple TypedDict TYPE_CHECKING abstractmethod").split()
NAMES_OUT = ("register mro elements open input version_info with_traceback add_note attrgetter breakpoint builtins "
             "compile copyright credits delattr dir eval exec exit gc getattr globals hasattr help id importlib "
             "license locals methodcaller os quit setattr super sys vars format format_map chr print").split()
BUILTINS = dir(builtins)
SHAPE = re.compile(r"[A-Za-z][A-Za-z0-9_]*\Z")


def package_files():
    return sorted([name for name in os.listdir(PACKAGE) if name != "__pycache__"])


def text_of(name):
    with open(os.path.join(PACKAGE, name), encoding="utf-8", newline="") as file:
        return file.read()


def trees():
    return [(name, ast.parse(text_of(name))) for name in package_files()]


def nodes_of(tree, kind):
    return [node for node in ast.walk(tree) if isinstance(node, kind)]


# Every name that a file binds: defs, classes, parameters, names and attributes that are given a value.
def bound_names(tree):
    names = [node.name for node in nodes_of(tree, (ast.FunctionDef, ast.ClassDef))]
    names += [node.arg for node in nodes_of(tree, ast.arg)]
    names += [node.id for node in nodes_of(tree, ast.Name) if isinstance(node.ctx, ast.Store)]
    return names + [node.attr for node in nodes_of(tree, ast.Attribute) if isinstance(node.ctx, ast.Store)]


def methods_and_values():
    methods = []
    values = []
    for name, tree in trees():
        for thing in nodes_of(tree, ast.ClassDef):
            methods += [node.name for node in thing.body if isinstance(node, ast.FunctionDef)]
        values += [node.attr for node in nodes_of(tree, ast.Attribute) if isinstance(node.ctx, ast.Store)]
    return methods, values


class LanguageTest(unittest.TestCase):
    def test_files(self):
        self.assertIn("__init__.py", package_files())
        for name in package_files():
            self.assertRegex(name, r"^(__init__|[a-z][a-z0-9_]*)\.py$")
            text = text_of(name)
            lines = text.split("\n")
            self.assertTrue(all([sign == "\n" or " " <= sign <= "~" for sign in text]), name)
            self.assertLessEqual(len(lines), 400, name)
            self.assertLessEqual(max([len(line) for line in lines]), 120, name)
            words = re.findall(r"[A-Za-z0-9_]+", text)
            self.assertEqual([word for word in words if word in WORDS_OUT], [], name)
            for part in ("dataclass", "overload", "contextmanager"):
                self.assertNotIn(part, text, name)

    def test_imports_are_of_the_package_and_of_the_file_that_defines_the_name(self):
        for name, tree in trees():
            with self.subTest(file=name):
                for node in nodes_of(tree, ast.ImportFrom):
                    self.assertIn(node, tree.body)
                    self.assertEqual(node.level, 0)
                    folder, file = node.module.split(".")
                    self.assertEqual(folder, "knownholds")
                    source = ast.parse(text_of(file + ".py"))
                    there = [one.name for one in source.body if isinstance(one, (ast.FunctionDef, ast.ClassDef))]
                    there += [one.targets[0].id for one in source.body if isinstance(one, ast.Assign)]
                    for alias in node.names:
                        self.assertIn(alias.name, there)

    def test_no_two_files_draw_from_one_another(self):
        draws = {}
        for name, tree in trees():
            draws[name] = [node.module.split(".")[1] + ".py" for node in nodes_of(tree, ast.ImportFrom)]
        self.assertEqual(draws["__init__.py"], [])
        while draws:
            free = [name for name in draws if not [other for other in draws[name] if other in draws]]
            self.assertNotEqual(free, [], "a round of imports")
            draws = {name: draws[name] for name in draws if name not in free}

    def test_statements_and_expressions(self):
        for name, tree in trees():
            with self.subTest(file=name):
                for node in nodes_of(tree, ast.stmt):
                    self.assertIsInstance(node, STATEMENTS)
                for node in nodes_of(tree, ast.expr):
                    self.assertIsInstance(node, EXPRESSIONS)
                for node in nodes_of(tree, ast.Assign):
                    self.assertEqual(len(node.targets), 1)
                for node in nodes_of(tree, (ast.For, ast.While)):
                    self.assertEqual(node.orelse, [])
                for node in nodes_of(tree, ast.Try):
                    self.assertEqual(node.finalbody, [])
                for node in nodes_of(tree, ast.ExceptHandler):
                    self.assertIsNotNone(node.type)
                for node in nodes_of(tree, (ast.Div, ast.MatMult)):
                    self.fail("a / stands there")
                for node in nodes_of(tree, ast.ListComp):
                    self.assertEqual(len(node.generators), 1)
                    self.assertLessEqual(len(node.generators[0].ifs), 1)
                for node in nodes_of(tree, ast.Constant):
                    self.assertIsInstance(node.value, (int, str, type(None)))
                    self.assertFalse(isinstance(node.value, str) and "%" in node.value)
                for node in nodes_of(tree, ast.Compare):
                    self.check_is(node)

    def test_f_strings_and_keywords_are_plain(self):
        for name, tree in trees():
            with self.subTest(file=name):
                for node in nodes_of(tree, ast.FormattedValue):
                    self.assertIsInstance(node.value, ast.Name)
                    self.assertIn(node.conversion, (-1, ord("r")))
                    self.assertIsNone(node.format_spec)
                for node in nodes_of(tree, ast.keyword):
                    self.assertIn(node.arg, ("key", "reverse", "default", "start", "strict"))

    def check_is(self, node):
        for operation, other in zip(node.ops, node.comparators):
            if isinstance(operation, (ast.Is, ast.IsNot)):
                self.assertIsInstance(other, ast.Constant)
                self.assertIn(other.value, (None, True, False))

    def test_a_call_by_itself_or_the_top_docstring(self):
        for name, tree in trees():
            with self.subTest(file=name):
                for node in nodes_of(tree, ast.Expr):
                    if node is not tree.body[0]:
                        self.assertIsInstance(node.value, ast.Call)

    def test_the_top_of_a_file(self):
        for name, tree in trees():
            with self.subTest(file=name):
                self.assertIsNotNone(ast.get_docstring(tree))
                names = []
                for node in tree.body[1:]:
                    self.assertIsInstance(node, (ast.ImportFrom, ast.FunctionDef, ast.ClassDef, ast.Assign))
                    if isinstance(node, ast.Assign):
                        names.append(node.targets[0].id)
                        inner = nodes_of(node.value, (ast.List, ast.Dict, ast.Set))
                        self.assertEqual([one for one in inner if one is not node.value], [])
                    elif not isinstance(node, ast.ImportFrom):
                        names.append(node.name)
                self.assertEqual(len(names), len(set(names)))

    def test_functions(self):
        for name, tree in trees():
            with self.subTest(file=name):
                for node in nodes_of(tree, ast.FunctionDef):
                    self.assertLessEqual(node.end_lineno - node.lineno + 1, 40)
                    self.assertEqual(node.decorator_list, [])
                    self.assertIsNone(node.returns)
                for node in nodes_of(tree, ast.arguments):
                    self.assertEqual((node.vararg, node.kwarg, node.kwonlyargs, node.posonlyargs), (None, None, [], []))

    def test_classes(self):
        for name, tree in trees():
            with self.subTest(file=name):
                for node in nodes_of(tree, ast.ClassDef):
                    self.assertIn(node, tree.body)
                    self.assertEqual((node.decorator_list, node.keywords), ([], []))
                    self.assertLessEqual(len(node.bases), 1)
                    for inner in node.body:
                        self.assertIsInstance(inner, (ast.FunctionDef, ast.Pass))
        methods, values = methods_and_values()
        self.assertEqual([value for value in values if value in methods], [])

    def test_names(self):
        for name, tree in trees():
            with self.subTest(file=name):
                classes = [node.name for node in nodes_of(tree, ast.ClassDef)]
                drawn = [alias.name for node in nodes_of(tree, ast.ImportFrom) for alias in node.names]
                for bound in bound_names(tree):
                    self.assertTrue(bound in DUNDERS or SHAPE.match(bound), bound)
                    self.assertNotIn(bound, NAMES_OUT)
                for bound in [node.arg for node in nodes_of(tree, ast.arg)]:
                    self.assertNotIn(bound, classes + drawn + BUILTINS)
                for node in nodes_of(tree, ast.Name):
                    self.assertNotIn(node.id, NAMES_OUT)
                    if isinstance(node.ctx, ast.Store):
                        self.assertNotIn(node.id, classes + drawn + BUILTINS)
                    elif node.id in BUILTINS:
                        self.assertIn(node.id, OWN_NAMES)

    def test_methods_that_are_called(self):
        own = methods_and_values()[0]
        for name, tree in trees():
            with self.subTest(file=name):
                for node in nodes_of(tree, ast.Call):
                    if isinstance(node.func, ast.Attribute):
                        self.assertIn(node.func.attr, METHODS + own)
