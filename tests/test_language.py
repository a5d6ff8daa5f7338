"""Rules of LANGUAGE.md that a look at the source can check."""

import ast
import builtins
import pathlib
import unittest

PACKAGE = pathlib.Path(__file__).resolve().parent.parent / "fairarcs"
LIBRARY = {
    "heapq": ("heappush", "heappop", "heapify", "heapreplace", "heappushpop"),
    "math": ("gcd", "lcm", "isqrt", "comb", "perm", "factorial"),
    "itertools": ("product", "combinations", "permutations", "chain", "accumulate", "pairwise", "islice",
                  "zip_longest"),
    "collections": ("defaultdict", "deque")}
BUILTINS = """len range enumerate zip min max sum abs sorted reversed int str bool bytes list tuple dict set frozenset
    isinstance ord repr any all divmod pow getattr hasattr setattr iter next map super type property staticmethod
    classmethod ValueError TypeError KeyError IndexError LookupError ZeroDivisionError StopIteration
    NotImplemented""".split()
DECORATORS = ("property", "staticmethod", "classmethod")
BARRED = """mro elements open input law version_info with_traceback add_note register typing enum Enum Generic
    Protocol ABC namedtuple dataclass overload contextmanager eval exec globals locals vars dir id""".split()
WORDS_BARRED = """type typing typing_extensions enum Enum IntEnum StrEnum Flag IntFlag Generic Protocol ABC ABCMeta
    namedtuple NamedTuple TypedDict TYPE_CHECKING abstractmethod dataclass overload contextmanager""".split()
OWN_METHODS = ("__init__", "__eq__", "__repr__", "__str__", "__len__", "__enter__", "__exit__", "__call__", "__iter__")
ITERATORS = "list tuple dict sorted sum min max any all enumerate zip".split()
STATEMENTS_BARRED = (ast.AsyncFunctionDef, ast.AsyncFor, ast.AsyncWith, ast.Await, ast.Global, ast.Import, ast.Div)


def sources():
    for path in sorted(PACKAGE.rglob("*.py")):
        text = path.read_text("utf-8")
        yield path, text, ast.parse(text)


def bound_names(tree):
    """The names that a module binds itself at module level, imports not counted."""
    for node in tree.body:
        if isinstance(node, (ast.FunctionDef, ast.ClassDef)):
            yield node.name
        elif isinstance(node, ast.Assign):
            yield node.targets[0].id


def docstrings(tree):
    owners = (ast.Module, ast.ClassDef, ast.FunctionDef)
    return [node.body[0].value for node in ast.walk(tree)
            if isinstance(node, owners) and node.body and ast.get_docstring(node) is not None]


def parents(tree):
    """For each node of a tree the one in which it stands."""
    return {child: node for node in ast.walk(tree) for child in ast.iter_child_nodes(node)}


def generators():
    """The names of all functions and methods that yield."""
    return {node.name for _, _, tree in sources() for node in ast.walk(tree) if isinstance(node, ast.FunctionDef)
            and any(isinstance(inner, (ast.Yield, ast.YieldFrom)) for inner in ast.walk(node))}


class Rules(unittest.TestCase):
    def test_l1_the_folder_contains_only_python_files(self):
        found = [path for path in PACKAGE.rglob("*") if "__pycache__" not in path.parts]
        self.assertIn(PACKAGE / "__init__.py", found)
        for path in found:
            self.assertEqual(path.suffix, ".py", path)

    def test_l10_and_l14_sizes_and_characters(self):
        for path, text, tree in sources():
            lines = text.split("\n")
            self.assertLess(len(lines), 400, path)
            for line in lines:
                self.assertLessEqual(len(line), 120, path)
                self.assertTrue(all(" " <= sign <= "~" for sign in line), (path, line))
            for node in ast.walk(tree):
                if isinstance(node, ast.FunctionDef):
                    self.assertLessEqual(node.end_lineno - node.lineno, 39, (path, node.name))

    def test_l2_and_l16_imports_name_the_file_that_defines_the_name(self):
        defined = {"fairarcs." + path.stem: list(bound_names(tree)) for path, _, tree in sources()}
        for path, _, tree in sources():
            for node in ast.walk(tree):
                if isinstance(node, ast.ImportFrom):
                    known = defined.get(node.module, LIBRARY.get(node.module, ()))
                    for name in node.names:
                        self.assertIn(name.name, known, path)
                        self.assertIsNone(name.asname, path)
                    self.assertEqual(node.level, 0, path)

    def test_l3_modules_only_define(self):
        for path, _, tree in sources():
            allowed = (ast.FunctionDef, ast.ClassDef, ast.Assign, ast.ImportFrom)
            for node in tree.body:
                docstring = node is tree.body[0] and isinstance(node, ast.Expr)
                self.assertTrue(docstring or isinstance(node, allowed), (path, node.lineno))

    def test_l4_to_l8_signs_names_and_statements(self):
        for path, _, tree in sources():
            texts = docstrings(tree)
            for node in ast.walk(tree):
                where = (path, getattr(node, "lineno", None))
                self.assertNotIsInstance(node, STATEMENTS_BARRED, where)
                if isinstance(node, ast.Name) and hasattr(builtins, node.id):
                    self.assertIn(node.id, BUILTINS, where)
                    self.assertIsInstance(node.ctx, ast.Load, where)
                if isinstance(node, (ast.Name, ast.Attribute)):
                    self.assertNotIn(getattr(node, "id", getattr(node, "attr", None)), BARRED, where)
                if isinstance(node, ast.Constant) and node not in texts:
                    self.assertNotIsInstance(node.value, (float, complex), where)
                    self.assertFalse(isinstance(node.value, str) and "%" in node.value, where)
                if isinstance(node, ast.Compare) and isinstance(node.ops[0], (ast.Is, ast.IsNot)):
                    self.assertIsInstance(node.comparators[0], ast.Constant, where)
                if isinstance(node, (ast.FunctionDef, ast.ClassDef)):
                    for decorator in node.decorator_list:
                        setter = isinstance(decorator, ast.Attribute) and decorator.attr == "setter"
                        self.assertTrue(setter or decorator.id in DECORATORS, where)

    def test_l15_no_local_name_hides_an_import_a_class_or_a_builtin(self):
        for path, _, tree in sources():
            taken = [name.name for node in tree.body if isinstance(node, ast.ImportFrom) for name in node.names]
            taken += [node.name for node in tree.body if isinstance(node, ast.ClassDef)]
            for node in ast.walk(tree):
                name = None
                if isinstance(node, ast.arg):
                    name = node.arg
                elif isinstance(node, ast.Name) and isinstance(node.ctx, ast.Store):
                    name = node.id
                self.assertNotIn(name, taken, path)
                self.assertFalse(name is not None and hasattr(builtins, name), (path, name))

    def test_l5_l18_and_l28_classes(self):
        for path, _, tree in sources():
            for node in ast.walk(tree):
                if not isinstance(node, ast.ClassDef):
                    continue
                methods = [inner for inner in node.body if isinstance(inner, ast.FunctionDef)]
                names = [method.name for method in methods]
                self.assertEqual(len(names), len(set(names)), (path, node.name))
                self.assertEqual(node.decorator_list, [], (path, node.name))
                for inner in ast.walk(node):
                    if isinstance(inner, ast.Attribute) and isinstance(inner.ctx, ast.Store):
                        self.assertNotIn(inner.attr, names, (path, node.name))
                for method in methods:
                    if method.name.startswith("__"):
                        self.assertIn(method.name, OWN_METHODS, (path, node.name))
                    if method.name == "__len__":
                        returned = method.body[-1].value
                        self.assertTrue(isinstance(returned, ast.Call) and returned.func.id == "len", path)

    def test_l17_and_l27_words_in_strings(self):
        for path, _, tree in sources():
            texts = docstrings(tree)
            for node in ast.walk(tree):
                if isinstance(node, ast.Constant) and isinstance(node.value, str) and node not in texts:
                    for word in WORDS_BARRED:
                        self.assertNotIn(word, node.value.split(), (path, node.lineno))
                    self.assertNotIn("__", node.value, (path, node.lineno))

    def test_l23_generators_are_iterated_at_once(self):
        names = generators()
        self.assertIn("starts", names)
        for path, _, tree in sources():
            above = parents(tree)
            for node in ast.walk(tree):
                if isinstance(node, ast.FunctionDef) and node.name in names:
                    self.assertTrue(any(isinstance(inner, (ast.Yield, ast.YieldFrom)) for inner in ast.walk(node)))
                if not isinstance(node, ast.Call):
                    continue
                called = getattr(node.func, "id", getattr(node.func, "attr", None))
                if called in names:
                    user = above[node]
                    at_once = isinstance(user, (ast.For, ast.comprehension, ast.YieldFrom))
                    at_once = at_once or isinstance(user, ast.Call) and user.func.id in ITERATORS
                    self.assertTrue(at_once, (path, node.lineno))


if __name__ == "__main__":
    unittest.main()
