"""Holds the package's files against some rules of the language; not all of them are looked at here."""

import ast
import builtins
import os
import re
import unittest

PACKAGE = os.path.join(os.path.dirname(os.path.dirname(os.path.abspath(__file__))), "chancehouse")
FILES = sorted(name for name in os.listdir(PACKAGE) if name != "__pycache__")

# L6 and L7; what a kind of node holds beside these is looked at below.
NODES = """
Module Load Store alias ImportFrom FunctionDef ClassDef arguments arg Assign AugAssign If While For Return Break
Continue Pass Raise Try ExceptHandler Expr Lambda Constant Name Attribute Subscript Slice Call keyword List Tuple
Dict Set ListComp comprehension JoinedStr FormattedValue BinOp UnaryOp BoolOp Compare IfExp Add Sub Mult FloorDiv
Mod Pow BitAnd BitOr BitXor LShift RShift Invert Not USub UAdd And Or Eq NotEq Lt LtE Gt GtE Is IsNot In NotIn
""".split()
OWN_NAMES = """
len range enumerate zip min max sum abs sorted reversed int str bool list tuple dict set frozenset isinstance ord
repr any all divmod Exception ValueError TypeError KeyError IndexError LookupError ZeroDivisionError
ArithmeticError OverflowError RuntimeError NotImplementedError AttributeError StopIteration
""".split()
METHODS = """
append clear copy count endswith extend find get index insert isalnum isalpha isdigit islower isspace isupper items
join keys ljust lower lstrip partition pop remove replace reverse rfind rjust rpartition rsplit rstrip setdefault
split splitlines startswith strip update upper values zfill bit_length
""".split()
UNUSED_NAMES = """
register mro elements open input version_info with_traceback add_note attrgetter breakpoint builtins compile
copyright credits delattr dir eval exec exit gc getattr globals hasattr help id importlib license locals
methodcaller os quit setattr super vars sys chr
""".split()
UNUSED_WORDS = re.compile(
    r"\b(type|typing|typing_extensions|enum|Enum|IntEnum|StrEnum|Flag|IntFlag|Generic|Protocol|ABC|ABCMeta|namedtuple"
    r"|NamedTuple|TypedDict|TYPE_CHECKING|abstractmethod)\b|dataclass|overload|contextmanager")
WALKED = ("zip", "enumerate", "reversed", "range", "items", "keys", "values")
WALKERS = ("list", "tuple", "dict", "sorted", "sum", "any", "all", "enumerate", "zip", "min", "max")
KEYWORDS = {"sorted": ("key", "reverse"), "min": ("key", "default"), "max": ("key", "default"), "sum": ("start",),
            "enumerate": ("start",), "zip": ("strict",)}
PLAIN_NAME = re.compile(r"[A-Za-z][A-Za-z0-9_]*\Z")
DUNDERS = ("__init__", "__eq__", "__repr__", "__str__", "__len__")


def text_of(name):
    with open(os.path.join(PACKAGE, name), encoding="utf-8") as file:
        return file.read()


def bound_names(tree):
    names = [node.id for node in ast.walk(tree) if isinstance(node, ast.Name) and isinstance(node.ctx, ast.Store)]
    names += [node.arg for node in ast.walk(tree) if isinstance(node, ast.arg)]
    return names


def imported_names(tree):
    return [alias.asname or alias.name
            for node in tree.body if isinstance(node, ast.ImportFrom) for alias in node.names]


def called(node):
    return node.func.id if isinstance(node.func, ast.Name) else getattr(node.func, "attr", None)


def drawn_from(name):
    return [node.module.split(".")[1] + ".py" for node in ast.parse(text_of(name)).body
            if isinstance(node, ast.ImportFrom)]


class Language(unittest.TestCase):
    def check_files(self, check):
        for name in FILES:
            with self.subTest(file=name):
                text = text_of(name)
                check(name, text, ast.parse(text))

    def test_files_and_signs(self):
        self.check_files(self.check_signs)

    def check_signs(self, name, text, tree):
        self.assertRegex(name, r"\A(__init__|[a-z][a-z0-9_]*)\.py\Z")
        self.assertIsNone(re.search(r"[^ -~\n]", text))
        lines = text.split("\n")
        self.assertLessEqual(len(lines), 400)
        self.assertLessEqual(max(len(line) for line in lines), 120)
        self.assertIsNone(UNUSED_WORDS.search(text))

    def test_nodes(self):
        self.check_files(self.check_nodes)

    def check_nodes(self, name, text, tree):
        for node in ast.walk(tree):
            self.assertIn(node.__class__.__name__, NODES)
            if isinstance(node, ast.Constant):
                self.assertIsInstance(node.value, (int, str, bool, type(None)))
                self.assertNotIn("%", str(node.value))
            if isinstance(node, ast.Assign):
                self.assertEqual(len(node.targets), 1)
            if isinstance(node, (ast.For, ast.While)):
                self.assertEqual(node.orelse, [])
            if isinstance(node, ast.ListComp):
                self.assertEqual(len(node.generators), 1)
                self.assertLessEqual(len(node.generators[0].ifs), 1)
            if isinstance(node, ast.Expr) and node is not tree.body[0]:
                self.assertIsInstance(node.value, ast.Call)
            if isinstance(node, ast.BinOp) and isinstance(node.op, ast.Pow):
                self.assertIn(getattr(node.right, "value", None), range(65))
            if isinstance(node, ast.Compare) and any(isinstance(op, (ast.Is, ast.IsNot)) for op in node.ops):
                self.assertEqual(len(node.ops), 1)
                self.assertIn(repr(getattr(node.comparators[0], "value", 0)), ("None", "True", "False"))

    def test_the_top_of_a_file(self):
        self.check_files(self.check_top)

    def check_top(self, name, text, tree):
        self.assertIsNotNone(ast.get_docstring(tree))
        bound = imported_names(tree)
        for node in tree.body[1:]:
            self.assertIsInstance(node, (ast.ImportFrom, ast.FunctionDef, ast.ClassDef, ast.Assign))
            if isinstance(node, ast.Assign):
                bound.append(node.targets[0].id)
            if isinstance(node, (ast.FunctionDef, ast.ClassDef)):
                bound.append(node.name)
        self.assertEqual(len(bound), len(set(bound)))

    def test_imports(self):
        self.check_files(self.check_imports)

    def check_imports(self, name, text, tree):
        for node in ast.walk(tree):
            if isinstance(node, ast.ImportFrom):
                self.assertEqual(node.level, 0)
                self.assertRegex(node.module, r"\Achancehouse\.[a-z]+\Z")
                self.assertIn(node.module.split(".")[1] + ".py", FILES)
                self.assertNotIn("*", [alias.name for alias in node.names])
                self.assertIn(node, tree.body)

    def test_no_two_files_draw_from_one_another(self):
        drawn = {name: drawn_from(name) for name in FILES}
        while drawn:
            free = [name for name in drawn if not any(other in drawn for other in drawn[name])]
            self.assertNotEqual(free, [], drawn)
            drawn = {name: others for name, others in drawn.items() if name not in free}

    def test_what_is_walked_at_once(self):
        self.check_files(self.check_walks)

    def check_walks(self, name, text, tree):
        walked = [node.iter for node in ast.walk(tree) if isinstance(node, (ast.For, ast.comprehension))]
        for node in ast.walk(tree):
            if isinstance(node, ast.Call) and getattr(node.func, "id", None) in WALKERS:
                walked.extend(node.args if node.func.id == "zip" else node.args[:1])
        for node in ast.walk(tree):
            if isinstance(node, ast.Call) and called(node) in WALKED:
                self.assertTrue(any(node is one for one in walked), f"line {node.lineno}")

    def test_keywords(self):
        self.check_files(self.check_keywords)

    def check_keywords(self, name, text, tree):
        for node in ast.walk(tree):
            if isinstance(node, ast.Call) and called(node) in OWN_NAMES + METHODS:
                for keyword in node.keywords:
                    self.assertIn(keyword.arg, KEYWORDS.get(called(node), ()))

    def test_functions_and_classes(self):
        self.check_files(self.check_definitions)

    def check_definitions(self, name, text, tree):
        for node in ast.walk(tree):
            if isinstance(node, ast.FunctionDef):
                self.assertLessEqual(node.end_lineno - node.lineno + 1, 40)
                self.assertEqual(node.decorator_list, [])
                self.assertIsNone(node.args.vararg)
                self.assertIsNone(node.args.kwarg)
                self.assertEqual(node.args.kwonlyargs + node.args.posonlyargs, [])
            if isinstance(node, ast.ClassDef):
                self.assertIn(node, tree.body)
                self.assertEqual(node.decorator_list + node.keywords, [])
                self.assertLessEqual(len(node.bases), 1)
                for part in node.body:
                    self.assertIsInstance(part, (ast.FunctionDef, ast.Pass))

    def test_names(self):
        self.check_files(self.check_names)

    def check_names(self, name, text, tree):
        taken = set(dir(builtins)) | set(imported_names(tree))
        for bound in bound_names(tree):
            self.assertRegex(bound, PLAIN_NAME)
            self.assertNotIn(bound, taken)
        for node in ast.walk(tree):
            if isinstance(node, ast.Name):
                self.assertNotIn(node.id, UNUSED_NAMES)
                self.assertTrue(node.id in OWN_NAMES or not hasattr(builtins, node.id), node.id)
            if isinstance(node, ast.FunctionDef) and node.name not in DUNDERS:
                self.assertRegex(node.name, PLAIN_NAME)
                self.assertNotIn(node.name, taken)

    def test_methods(self):
        self.check_files(self.check_methods)

    def check_methods(self, name, text, tree):
        own = [part.name for other in FILES for node in ast.parse(text_of(other)).body
               if isinstance(node, ast.ClassDef) for part in node.body if isinstance(part, ast.FunctionDef)]
        for node in ast.walk(tree):
            if isinstance(node, ast.Call) and isinstance(node.func, ast.Attribute):
                self.assertIn(node.func.attr, METHODS + own)


if __name__ == "__main__":
    unittest.main()
