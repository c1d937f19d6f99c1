"""Those rules of the language that a look at each file of the package can tell."""

import ast
import io
import pathlib
import re
import tokenize
import unittest

PACKAGE = pathlib.Path(__file__).resolve().parent.parent / "selfpower"

LIBRARY = {
    "heapq": {"heappush", "heappop", "heapify", "heapreplace", "heappushpop"},
    "math": {"gcd", "lcm", "isqrt", "comb", "perm", "factorial"},
    "itertools": {"product", "combinations", "permutations", "chain", "accumulate", "pairwise", "islice",
                  "zip_longest"},
    "collections": {"defaultdict", "deque"},
}

DOUBLE_UNDERSCORE = {
    "__init__", "__eq__", "__repr__", "__str__", "__len__", "__enter__", "__exit__", "__call__", "__iter__",
    "__lt__", "__le__", "__gt__", "__ge__", "__ne__", "__neg__", "__pos__", "__invert__", "__abs__", "__bool__",
    "__contains__", "__getitem__", "__setitem__",
} | {f"__{way}{sign}__" for way in ("", "r", "i") for sign in (
    "add", "sub", "mul", "floordiv", "mod", "pow", "and", "or", "xor", "lshift", "rshift")}

NOWHERE = {"register", "mro", "elements", "open", "input", "law", "version_info", "with_traceback", "add_note"}

NOT_IN_CODE = re.compile(
    r"\b(type|typing|typing_extensions|enum|Enum|IntEnum|StrEnum|Flag|IntFlag|Generic|Protocol|ABC|ABCMeta|namedtuple"
    r"|NamedTuple|TypedDict|TYPE_CHECKING|abstractmethod)\b|dataclass|overload|contextmanager")

NODES_NOT_USED = (ast.AsyncFunctionDef, ast.Await, ast.AsyncFor, ast.AsyncWith, ast.GeneratorExp, ast.Div)

FILES = sorted(PACKAGE.rglob("*.py"))


def trees():
    return [(path.name, ast.parse(path.read_text())) for path in FILES]


class Files(unittest.TestCase):
    def test_the_folder_holds_nothing_else(self):
        for path in PACKAGE.rglob("*"):
            if "__pycache__" not in path.parts:
                self.assertTrue(path.suffix == ".py", path)
                self.assertRegex(path.stem, r"^[a-z0-9_]+$")
        self.assertIn("__init__.py", [path.name for path in FILES])

    def test_sizes_and_characters(self):
        for path in FILES:
            text = path.read_text()
            self.assertTrue(all(sign == "\n" or " " <= sign <= "~" for sign in text), path)
            self.assertLessEqual(text.count("\n"), 399)
            self.assertLessEqual(max(len(line) for line in text.split("\n")), 120)

    def test_functions_have_at_most_40_lines(self):
        for name, tree in trees():
            for node in ast.walk(tree):
                if isinstance(node, ast.FunctionDef):
                    self.assertLessEqual(node.end_lineno - node.lineno + 1, 40, (name, node.name))

    def test_words_that_are_not_used(self):
        for path in FILES:
            for token in tokenize.generate_tokens(io.StringIO(path.read_text()).readline):
                is_docstring = token.type == tokenize.STRING and token.string.startswith('"""')
                if token.type == tokenize.NAME:
                    self.assertNotIn(token.string, NOWHERE, path)
                if token.type != tokenize.COMMENT and not is_docstring and token.string != "type":
                    self.assertIsNone(NOT_IN_CODE.search(token.string), (path, token.string))


class Trees(unittest.TestCase):
    def test_imports(self):
        for name, tree in trees():
            for node in ast.walk(tree):
                self.assertNotIsInstance(node, ast.Import, name)
                if isinstance(node, ast.ImportFrom):
                    self.assertEqual(node.level, 0)
                    for alias in node.names:
                        self.assertIsNone(alias.asname)
                        if node.module in LIBRARY:
                            self.assertIn(alias.name, LIBRARY[node.module], name)
                        else:
                            self.assertRegex(node.module, r"^selfpower\.[a-z]+$")

    def test_module_level(self):
        for name, tree in trees():
            for node in tree.body:
                if isinstance(node, ast.Expr):
                    self.assertIs(node, tree.body[0], name)
                else:
                    self.assertIsInstance(node, (ast.ImportFrom, ast.FunctionDef, ast.ClassDef, ast.Assign), name)

    def test_classes_and_methods(self):
        for name, tree in trees():
            for node in ast.walk(tree):
                if isinstance(node, ast.ClassDef):
                    self.assertEqual(node.decorator_list, [])
                if isinstance(node, ast.FunctionDef) and node.name.startswith("__"):
                    self.assertIn(node.name, DOUBLE_UNDERSCORE, name)

    def test_values_and_expressions(self):
        for name, tree in trees():
            for node in ast.walk(tree):
                self.assertNotIsInstance(node, NODES_NOT_USED, name)
                if isinstance(node, ast.Constant):
                    self.assertNotIsInstance(node.value, (float, complex), name)
                if isinstance(node, ast.Constant) and isinstance(node.value, str):
                    self.assertNotIn("%", node.value, name)

    def test_exponents_are_literals(self):
        for name, tree in trees():
            for node in ast.walk(tree):
                if isinstance(node, ast.BinOp) and isinstance(node.op, ast.Pow):
                    self.assertIsInstance(node.right, ast.Constant, name)


if __name__ == "__main__":
    unittest.main()
