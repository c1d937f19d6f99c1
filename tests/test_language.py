"""Those rules of the language that a look at each file of the package can tell."""

import ast
import builtins
import io
import pathlib
import re
import tokenize
import unittest

PACKAGE = pathlib.Path(__file__).resolve().parent.parent / "selfpower"

LIBRARY = {
    "heapq": {"heappush", "heappop", "heapify", "heapreplace", "heappushpop"},
    "math": {"gcd", "lcm", "isqrt", "comb", "perm", "factorial"},
    "itertools": {"product", "combinations", "permutations", "chain", "accumulate", "pairwise", "islice",
                  "zip_longest"},
    "collections": {"defaultdict", "deque"},
}

DOUBLE_UNDERSCORE = {
    "__init__", "__eq__", "__repr__", "__str__", "__len__", "__enter__", "__exit__", "__call__", "__iter__",
    "__lt__", "__le__", "__gt__", "__ge__", "__ne__", "__neg__", "__pos__", "__invert__", "__abs__", "__bool__",
    "__contains__", "__getitem__", "__setitem__",
} | {f"__{way}{sign}__" for way in ("", "r", "i") for sign in (
    "add", "sub", "mul", "floordiv", "mod", "pow", "and", "or", "xor", "lshift", "rshift")}

NOWHERE = {"register", "mro", "elements", "open", "input", "law", "version_info", "with_traceback", "add_note"}

NOT_IN_CODE = re.compile(
    r"\b(type|typing|typing_extensions|enum|Enum|IntEnum|StrEnum|Flag|IntFlag|Generic|Protocol|ABC|ABCMeta|namedtuple"
    r"|NamedTuple|TypedDict|TYPE_CHECKING|abstractmethod)\b|dataclass|overload|contextmanager")

NODES_NOT_USED = (ast.AsyncFunctionDef, ast.Await, ast.AsyncFor, ast.AsyncWith, ast.GeneratorExp, ast.Div)

# The builtins that may be used, without the errors.
BUILTINS = set("""len range enumerate zip min max sum abs sorted reversed int str bool bytes list tuple dict set frozenset isinstance
    ord repr any all divmod pow iter next map getattr hasattr setattr super property staticmethod classmethod""".split())

ERRORS = set("""Exception ValueError TypeError KeyError IndexError LookupError ZeroDivisionError ArithmeticError
    OverflowError RuntimeError NotImplementedError AttributeError StopIteration NotImplemented""".split())

# The methods of builtin values that may be called.
METHODS = set("""append clear copy count endswith extend find get index insert isalnum isalpha isdigit islower isspace isupper
    items join keys ljust lower lstrip partition pop remove replace reverse rfind rjust rpartition rsplit rstrip setdefault
    split splitlines startswith strip update upper values zfill bit_length add discard removeprefix removesuffix""".split())

# Of those, the ones that change their object.
CHANGING = set("append clear extend insert pop remove reverse setdefault update add discard".split())

AT_ONCE = {"zip", "enumerate", "reversed"}

TAKERS = {"list", "tuple", "dict", "sorted", "sum", "any", "all", "min", "max", "enumerate", "zip"}

# Where examples were run, `_` is among them, too.
ALL_BUILTINS = set(dir(builtins)) - {"_"}

FILES = sorted(PACKAGE.rglob("*.py"))


def is_part_of_class(tree, node):
    return any(node in part.body for part in ast.walk(tree) if isinstance(part, ast.ClassDef))


def bound_names(node):
    """The names of the parameters and variables of a function."""
    found = {part.arg for part in ast.walk(node) if isinstance(part, ast.arg)}
    return found | {part.id for part in ast.walk(node) if isinstance(part, ast.Name) and isinstance(part.ctx, ast.Store)}


def decorators(node):
    return [ast.unparse(part) for part in node.decorator_list]


def methods():
    """All methods of the package, as pairs of the name of the class and the tree."""
    return [(part.name, node) for _, tree in trees() for part in ast.walk(tree) if isinstance(part, ast.ClassDef)
            for node in part.body if isinstance(node, ast.FunctionDef)]


def class_values():
    return {node.targets[0].id for _, tree in trees() for part in ast.walk(tree) if isinstance(part, ast.ClassDef)
            for node in part.body if isinstance(node, ast.Assign)}


def stored_attributes():
    return {node.attr for _, tree in trees() for node in ast.walk(tree)
            if isinstance(node, ast.Attribute) and isinstance(node.ctx, ast.Store)}


def is_plain(node, properties):
    """Whether what is written there may stand behind a star of a call, and beside two stars."""
    if isinstance(node, ast.Attribute):
        return isinstance(node.value, ast.Name) and node.attr not in properties
    if isinstance(node, (ast.List, ast.Tuple)):
        return all(is_plain(part, properties) for part in node.elts)
    if isinstance(node, ast.Dict):
        return all(is_plain(part, properties) for part in node.keys + node.values)
    return isinstance(node, (ast.Name, ast.Constant))


def wrong_stars(tree, properties):
    """The texts of what stands wrongly behind a star of a call, or beside two stars."""
    found = []
    for node in ast.walk(tree):
        if isinstance(node, ast.Call):
            starred = [part.value for part in node.args if isinstance(part, ast.Starred)]
            if any(part.arg is None for part in node.keywords):
                starred += [part for part in node.args if not isinstance(part, ast.Starred)]
                starred += [part.value for part in node.keywords]
            found += [ast.unparse(part) for part in starred if not is_plain(part, properties)]
    return found


def trees():
    return [(path.name, ast.parse(path.read_text())) for path in FILES]


class Files(unittest.TestCase):
    def test_the_folder_holds_nothing_else(self):
        for path in PACKAGE.rglob("*"):
            if "__pycache__" not in path.parts:
                self.assertTrue(path.suffix == ".py", path)
                self.assertRegex(path.stem, r"^[a-z0-9_]+$")
        self.assertIn("__init__.py", [path.name for path in FILES])

    def test_sizes_and_characters(self):
        for path in FILES:
            text = path.read_text()
            self.assertTrue(all(sign == "\n" or " " <= sign <= "~" for sign in text), path)
            self.assertLessEqual(text.count("\n"), 399)
            self.assertLessEqual(max(len(line) for line in text.split("\n")), 120)

    def test_functions_have_at_most_40_lines(self):
        for name, tree in trees():
            for node in ast.walk(tree):
                if isinstance(node, ast.FunctionDef):
                    self.assertLessEqual(node.end_lineno - node.lineno + 1, 40, (name, node.name))

    def test_words_that_are_not_used(self):
        for path in FILES:
            for token in tokenize.generate_tokens(io.StringIO(path.read_text()).readline):
                is_docstring = token.type == tokenize.STRING and token.string.startswith('"""')
                if token.type == tokenize.NAME:
                    self.assertNotIn(token.string, NOWHERE, path)
                if token.type != tokenize.COMMENT and not is_docstring and token.string != "type":
                    self.assertIsNone(NOT_IN_CODE.search(token.string), (path, token.string))


class Trees(unittest.TestCase):
    def test_imports(self):
        for name, tree in trees():
            for node in ast.walk(tree):
                self.assertNotIsInstance(node, ast.Import, name)
                if isinstance(node, ast.ImportFrom):
                    self.assertEqual(node.level, 0)
                    for alias in node.names:
                        self.assertIsNone(alias.asname)
                        if node.module in LIBRARY:
                            self.assertIn(alias.name, LIBRARY[node.module], name)
                        else:
                            self.assertRegex(node.module, r"^selfpower\.[a-z]+$")

    def test_imports_name_the_files_that_define_the_names_and_are_used(self):
        made = {name: {node.name for node in tree.body if isinstance(node, (ast.FunctionDef, ast.ClassDef))} |
                {node.targets[0].id for node in tree.body if isinstance(node, ast.Assign)} for name, tree in trees()}
        for name, tree in trees():
            used = {node.id for node in ast.walk(tree) if isinstance(node, ast.Name)}
            for node in tree.body:
                if isinstance(node, ast.ImportFrom) and node.module not in LIBRARY:
                    for alias in node.names:
                        self.assertIn(alias.name, made[node.module.split(".")[1] + ".py"], name)
                        self.assertIn(alias.name, used, name)

    def test_a_finally_only_assigns_plain_values(self):
        for name, tree in trees():
            for node in ast.walk(tree):
                for row in getattr(node, "finalbody", []):
                    self.assertIsInstance(row, ast.Assign, name)
                    self.assertTrue(is_plain(row.value, set()), name)

    def test_what_is_iterated_is_not_changed(self):
        """No loop's row assigns an item of, or calls a changing method of, the very name or attribute that the loop goes over."""
        for name, tree in trees():
            for node in ast.walk(tree):
                if isinstance(node, ast.For):
                    over = {ast.unparse(part) for part in ast.walk(node.iter) if isinstance(part, (ast.Name, ast.Attribute))}
                    for part in [inner for row in node.body for inner in ast.walk(row)]:
                        if isinstance(part, ast.Subscript) and isinstance(part.ctx, (ast.Store, ast.Del)):
                            self.assertNotIn(ast.unparse(part.value), over, name)
                        if isinstance(part, ast.Call) and isinstance(part.func, ast.Attribute) and part.func.attr in CHANGING:
                            self.assertNotIn(ast.unparse(part.func.value), over, name)

    def test_module_level(self):
        for name, tree in trees():
            for node in tree.body:
                if isinstance(node, ast.Expr):
                    self.assertIs(node, tree.body[0], name)
                else:
                    self.assertIsInstance(node, (ast.ImportFrom, ast.FunctionDef, ast.ClassDef, ast.Assign), name)

    def test_classes_and_methods(self):
        for name, tree in trees():
            for node in ast.walk(tree):
                if isinstance(node, ast.ClassDef):
                    self.assertEqual(node.decorator_list, [])
                if isinstance(node, ast.FunctionDef) and node.name.startswith("__"):
                    self.assertIn(node.name, DOUBLE_UNDERSCORE, name)

    def test_values_and_expressions(self):
        for name, tree in trees():
            for node in ast.walk(tree):
                self.assertNotIsInstance(node, NODES_NOT_USED, name)
                if isinstance(node, ast.Constant):
                    self.assertNotIsInstance(node.value, (float, complex), name)
                if isinstance(node, ast.Constant) and isinstance(node.value, str):
                    self.assertNotIn("%", node.value, name)

    def test_exponents_are_literals(self):
        for name, tree in trees():
            for node in ast.walk(tree):
                if isinstance(node, ast.BinOp) and isinstance(node.op, ast.Pow):
                    self.assertIsInstance(node.right, ast.Constant, name)

    def test_stars_of_calls(self):
        properties = {node.name for _, node in methods() if decorators(node) == ["property"]}
        for name, tree in trees():
            self.assertEqual(wrong_stars(tree, properties), [], name)

    def test_builtins_with_stars(self):
        for name, tree in trees():
            for node in ast.walk(tree):
                if isinstance(node, ast.Call) and isinstance(node.func, ast.Name) and node.func.id in ALL_BUILTINS:
                    if any(isinstance(part, ast.Starred) for part in node.args):
                        self.assertIn(node.func.id, ("zip", "max", "min"), name)

    def test_wrong_stars_are_found(self):
        for text, expected in (
                ("zip(*run.outputs())", ["run.outputs()"]), ("f(*g(x))", ["g(x)"]), ("max(*g())", ["g()"]),
                ("min(1, *x.rows())", ["x.rows()"]), ("box.put(*f(), 1)", ["f()"]), ("f(*xs[0])", ["xs[0]"]),
                ("f(*a + b)", ["a + b"]), ("f(*[g(x)])", ["[g(x)]"]), ("f(*a.b.c)", ["a.b.c"]), ("f(*box.sizes)", ["box.sizes"]),
                ("f(*[x for x in xs])", ["[x for x in xs]"]), ("f(g(), **d)", ["g()"]), ("f(**g())", ["g()"]),
                ("f(g(), *xs)", []), ("zip(*rows)", []), ("f(*box.rows, *(1, x), n, k=g())", []), ("f(1, x, **d)", []),
                ("f(*[1, (x, y.z)], **{'a': x})", []), ("[*f(x), 1]", [])):
            self.assertEqual(wrong_stars(ast.parse(text), {"sizes"}), expected, text)

    def test_no_augmented_assignments(self):
        # Classes of the document have signs in place, and then these need much care.
        for name, tree in trees():
            for node in ast.walk(tree):
                self.assertNotIsInstance(node, ast.AugAssign, name)

    def test_what_is_iterated_at_once(self):
        for name, tree in trees():
            right = set()
            for node in ast.walk(tree):
                if isinstance(node, (ast.For, ast.comprehension)):
                    right.add(node.iter)
                if isinstance(node, ast.Call) and isinstance(node.func, ast.Name) and node.func.id in TAKERS and node.args:
                    right.update(node.args if node.func.id in AT_ONCE else node.args[:1])
            for node in ast.walk(tree):
                if isinstance(node, ast.Call) and ast.unparse(node.func) in AT_ONCE:
                    self.assertIn(node, right, (name, ast.unparse(node)))
                if isinstance(node, ast.Call) and isinstance(node.func, ast.Attribute) and node.func.attr in ("items", "values"):
                    self.assertIn(node, right, (name, ast.unparse(node)))


class Names(unittest.TestCase):
    def test_builtins(self):
        for name, tree in trees():
            for node in ast.walk(tree):
                if isinstance(node, ast.Name) and node.id in ALL_BUILTINS:
                    self.assertIn(node.id, BUILTINS | ERRORS, name)
                    self.assertIsInstance(node.ctx, ast.Load)
                if isinstance(node, ast.FunctionDef) and not is_part_of_class(tree, node):
                    self.assertFalse(node.name in ALL_BUILTINS, node.name)
                if isinstance(node, ast.FunctionDef):
                    for bound in bound_names(node):
                        self.assertFalse(bound in ALL_BUILTINS, (name, node.name, bound))

    def test_names_of_a_file_are_bound_once(self):
        for name, tree in trees():
            found = []
            for node in tree.body:
                if isinstance(node, ast.ImportFrom):
                    found.extend(alias.name for alias in node.names)
                if isinstance(node, (ast.FunctionDef, ast.ClassDef)):
                    found.append(node.name)
                if isinstance(node, ast.Assign):
                    self.assertEqual([type(target) for target in node.targets], [ast.Name])
                    found.append(node.targets[0].id)
            self.assertEqual(len(found), len(set(found)), name)
            for node in ast.walk(tree):
                if isinstance(node, ast.FunctionDef):
                    self.assertEqual(bound_names(node) & set(found), set(), (name, node.name))

    def test_attributes_are_assigned_or_methods(self):
        known = METHODS | stored_attributes() | {node.name for _, node in methods()} | {"__class__", "__name__", "setter"} | class_values()
        for name, tree in trees():
            for node in ast.walk(tree):
                if isinstance(node, ast.Attribute):
                    self.assertIn(node.attr, known, name)
                    self.assertIn(type(node.ctx), (ast.Load, ast.Store))

    def test_decorators(self):
        for made, node in methods():
            self.assertIn(decorators(node), ([], ["property"], ["staticmethod"], ["classmethod"], [node.name + ".setter"]))
        for _, tree in trees():
            for node in ast.walk(tree):
                if isinstance(node, ast.FunctionDef) and not is_part_of_class(tree, node):
                    self.assertEqual(node.decorator_list, [])

    def test_names_of_properties_and_static_methods(self):
        plain = {node.name for _, node in methods() if decorators(node) == []}
        single = {node.name for _, node in methods() if decorators(node) in (["staticmethod"], ["classmethod"])}
        asked = {node.name for _, node in methods() if decorators(node) == ["property"]}
        of_values = {name for kind in (str, int, list, dict, set, bytes) for name in dir(kind)}
        self.assertEqual([plain & single, plain & asked, single & asked], [set()] * 3)
        self.assertEqual([(single | asked) & stored_attributes(), (single | asked) & of_values], [set()] * 2)

    def test_names_of_methods_and_attributes(self):
        plain = {node.name for _, node in methods() if not node.name.startswith("__")}
        self.assertEqual(plain & stored_attributes(), set())

    def test_names_of_class_values(self):
        names = {node.name for _, node in methods()} | {part.name for _, tree in trees() for part in ast.walk(tree)
                                                        if isinstance(part, ast.ClassDef)}
        self.assertEqual(class_values() & (names | stored_attributes()), set())

    def test_methods_with_two_underscores_are_simple(self):
        for made, node in methods():
            if node.name in ("__eq__", "__str__", "__repr__", "__len__"):
                self.assertEqual([type(row) for row in node.body if not isinstance(row, ast.Expr)], [ast.Return], made)

    def test_no_files_import_from_each_other(self):
        imports = {name: [node.module.split(".")[1] + ".py" for node in tree.body if isinstance(node, ast.ImportFrom)
                          and node.module.startswith("selfpower.")] for name, tree in trees()}
        self.assertEqual(imports["__init__.py"], [])
        while imports:
            free = [name for name in imports if not set(imports[name]) & set(imports)]
            self.assertTrue(free, imports)
            for name in free:
                del imports[name]


if __name__ == "__main__":
    unittest.main()
