"""Those rules of ../shared/LANGUAGE.md that can be seen file by file, held against the package."""
import ast
import builtins
import pathlib
import re
import unittest

PACKAGE = pathlib.Path(__file__).resolve().parent.parent / "oddreel"
NAMES = """
    len range enumerate zip min max sum abs sorted reversed int str bool list tuple dict set frozenset isinstance ord
    repr any all divmod Exception ValueError TypeError KeyError IndexError LookupError ZeroDivisionError
    ArithmeticError OverflowError RuntimeError NotImplementedError AttributeError StopIteration
""".split()
METHODS = """
    append clear copy count endswith extend find get index insert isalnum isalpha isdigit islower isspace isupper items
    join keys ljust lower lstrip partition pop remove replace reverse rfind rjust rpartition rsplit rstrip setdefault
    split splitlines startswith strip update upper values zfill bit_length
""".split()
WORDS = """
    type typing typing_extensions enum Enum IntEnum StrEnum Flag IntFlag Generic Protocol ABC ABCMeta namedtuple
    NamedTuple TypedDict TYPE_CHECKING abstractmethod
""".split()
NODES = """
    Module FunctionDef ClassDef arguments arg Lambda Assign AugAssign If While For Return Break Continue Pass Raise Try
    ExceptHandler Expr Call keyword ImportFrom alias Constant List Tuple Dict Set ListComp comprehension IfExp BoolOp
    BinOp UnaryOp Compare Attribute Subscript Slice Name JoinedStr FormattedValue Load Store And Or Not Invert USub
    UAdd Add Sub Mult FloorDiv Mod Pow LShift RShift BitAnd BitOr BitXor Eq NotEq Lt LtE Gt GtE Is IsNot In NotIn
""".split()


def files():
    return sorted(path for path in PACKAGE.rglob("*") if "__pycache__" not in path.parts)


def nodes(path, *kinds):
    return [node for node in ast.walk(ast.parse(path.read_text())) if isinstance(node, kinds)]


def is_pythons_own(name):
    return hasattr(builtins, name) and not name.startswith("__")


def bound_names(path):
    found = [node.name for node in nodes(path, ast.FunctionDef, ast.ClassDef)]
    found += [node.arg for node in nodes(path, ast.arg)]
    return found + [node.id for node in nodes(path, ast.Name) if isinstance(node.ctx, ast.Store)]


def drawn_names(path):
    return [name.asname or name.name for node in nodes(path, ast.ImportFrom) for name in node.names]


def drawn_files(path):
    return [PACKAGE / (node.module.split(".")[1] + ".py") for node in nodes(path, ast.ImportFrom)]


def is_docstring(node):
    return isinstance(node, ast.Expr) and isinstance(node.value, ast.Constant) and isinstance(node.value.value, str)


def calls(path, *names):
    return [node for node in nodes(path, ast.Call) if isinstance(node.func, ast.Name) and node.func.id in names]


def walked_on_the_spot(path):
    places = [node.iter for node in nodes(path, ast.For, ast.comprehension)]
    walkers = ("list", "tuple", "dict", "sorted", "sum", "any", "all", "enumerate", "zip", "min", "max")
    return places + [node.args[0] for node in calls(path, *walkers) if node.args]


class Language(unittest.TestCase):
    def test_the_package_is_there(self):
        self.assertIn(PACKAGE / "__init__.py", files())

    def test_files(self):
        for path in files():
            self.assertRegex(path.name, r"^(__init__|__main__|[a-z][a-z0-9_]*)\.py$")
            self.assertFalse(is_pythons_own(path.stem), path)

    def test_signs_and_sizes(self):
        for path in files():
            self.assertTrue(all(sign == 10 or 32 <= sign <= 126 for sign in path.read_bytes()), path)
            lines = path.read_text().split("\n")
            self.assertLessEqual(len(lines), 400, path)
            self.assertLessEqual(max(len(line) for line in lines), 120, path)
            for node in nodes(path, ast.FunctionDef):
                self.assertLessEqual(node.end_lineno - node.lineno + 1, 40, (path, node.name))

    def test_words_that_stand_nowhere(self):
        for path in files():
            text = path.read_text()
            self.assertEqual(set(re.findall(r"\w+", text)) & set(WORDS), set(), path)
            self.assertIsNone(re.search("dataclass|overload|contextmanager", text), path)

    def test_forms(self):
        for path in files():
            for node in nodes(path, ast.AST):
                self.assertIn(node.__class__.__name__, NODES, (path, getattr(node, "lineno", None)))
                self.assertEqual(getattr(node, "decorator_list", []), [], path)
            for node in nodes(path, ast.For, ast.While):
                self.assertEqual(node.orelse, [], (path, node.lineno))
            for node in nodes(path, ast.Try):
                self.assertEqual(node.finalbody, [], (path, node.lineno))
            for node in nodes(path, ast.Assign):
                self.assertEqual(len(node.targets), 1, (path, node.lineno))
            for node in nodes(path, ast.ListComp):
                self.assertEqual(len(node.generators), 1, (path, node.lineno))
            for node in nodes(path, ast.Constant):
                self.assertIn(node.value.__class__, (int, str, bool, None.__class__), (path, node.lineno))

    def test_imports(self):
        for path in files():
            for node in nodes(path, ast.ImportFrom):
                self.assertEqual(node.level, 0, path)
                self.assertRegex(node.module, r"^oddreel\.[a-z0-9_]+$", path)
                defined = bound_names(PACKAGE / (node.module.split(".")[1] + ".py"))
                for name in node.names:
                    self.assertIn(name.name, defined, path)

    def test_names(self):
        for path in files():
            bound = bound_names(path)
            for name in bound:
                self.assertRegex(name, r"^([A-Za-z]\w*|__(init|eq|repr|str|len)__|__(all|version)__)$", path)
                self.assertFalse(is_pythons_own(name), (path, name))
            drawn = drawn_names(path)
            for node in nodes(path, ast.Name):
                self.assertIn(node.id, bound + drawn + NAMES, (path, node.lineno))

    def test_methods(self):
        own = [node.name for path in files() for node in nodes(path, ast.FunctionDef)]
        own += [node.attr for path in files() for node in nodes(path, ast.Attribute) if isinstance(node.ctx, ast.Store)]
        for path in files():
            for node in nodes(path, ast.Attribute):
                self.assertIn(node.attr, METHODS + own, (path, node.lineno))

    def test_is_stands_beside_none_and_truths_alone(self):
        for path in files():
            for node in nodes(path, ast.Compare):
                for sign, right in zip(node.ops, node.comparators):
                    if isinstance(sign, (ast.Is, ast.IsNot)):
                        self.assertTrue(isinstance(right, ast.Constant) and right.value in (None, True, False),
                                        (path, node.lineno))

    def test_the_top_of_a_file(self):
        for path in files():
            top = ast.parse(path.read_text()).body
            self.assertTrue(is_docstring(top[0]), path)
            for node in top[1:]:
                self.assertIsInstance(node, (ast.ImportFrom, ast.FunctionDef, ast.ClassDef, ast.Assign), path)
            once = [node.name for node in top if isinstance(node, (ast.FunctionDef, ast.ClassDef))]
            once += [node.targets[0].id for node in top if isinstance(node, ast.Assign)] + drawn_names(path)
            self.assertEqual(len(once), len(set(once)), path)

    def test_parameters(self):
        for path in files():
            for node in nodes(path, ast.arguments):
                others = (node.vararg, node.kwarg, node.kwonlyargs, node.posonlyargs)
                self.assertEqual(others, (None, None, [], []), path)
            # None of them, and no local either, is called like a class or an import of its file.
            taken = drawn_names(path) + [node.name for node in nodes(path, ast.ClassDef)]
            inner = [node.arg for node in nodes(path, ast.arg)]
            inner += [node.id for node in nodes(path, ast.Name) if isinstance(node.ctx, ast.Store)]
            self.assertEqual(set(inner) & set(taken), set(), path)

    def test_no_two_files_draw_from_one_another(self):
        for path in files():
            reached = set()
            left = drawn_files(path)
            while left:
                other = left.pop()
                if other not in reached:
                    reached.add(other)
                    left += drawn_files(other)
            self.assertNotIn(path, reached)

    def test_walked_at_once(self):
        for path in files():
            places = [(node.lineno, node.col_offset) for node in walked_on_the_spot(path)]
            for node in calls(path, "zip", "enumerate", "reversed", "range"):
                self.assertIn((node.lineno, node.col_offset), places, path)

    def test_numbers_and_texts(self):
        for path in files():
            for node in nodes(path, ast.Constant):
                self.assertNotIn("%", str(node.value), (path, node.lineno))
            for node in nodes(path, ast.BinOp):
                if isinstance(node.op, ast.Pow):
                    self.assertIsInstance(node.right, ast.Constant, (path, node.lineno))


if __name__ == "__main__":
    unittest.main()
