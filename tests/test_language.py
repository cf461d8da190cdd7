"""Those rules of the language that a look at the files can tell."""

import ast
import builtins
import pathlib
import re
import unittest

FOLDER = pathlib.Path(__file__).resolve().parent.parent / "forkjoins"
FILES = sorted(FOLDER.glob("*.py"))
ALLOWED = set((
    "len range enumerate zip min max sum abs sorted reversed int str bool bytes list tuple dict set frozenset "
    "isinstance ord repr any all divmod Exception ValueError TypeError KeyError IndexError LookupError "
    "ZeroDivisionError ArithmeticError OverflowError RuntimeError NotImplementedError AttributeError "
    "StopIteration NotImplemented").split())
METHODS = set((
    "append clear copy count endswith extend find get index insert isalnum isalpha isdigit islower isspace isupper items "
    "join keys ljust lower lstrip partition pop remove replace reverse rfind rjust rpartition rsplit rstrip setdefault "
    "split splitlines startswith strip update upper values zfill bit_length removeprefix removesuffix").split())
BARRED = set((
    "register mro elements open input version_info with_traceback add_note attrgetter breakpoint builtins compile "
    "copyright credits delattr dir eval exec exit gc getattr globals hasattr help id importlib license locals "
    "methodcaller os quit setattr super vars sys").split())
WORDS = re.compile(
    r"\b(type|typing|typing_extensions|enum|Enum|IntEnum|StrEnum|Flag|IntFlag|Generic|Protocol|ABC|ABCMeta|"
    r"namedtuple|NamedTuple|TypedDict|TYPE_CHECKING|abstractmethod)\b|dataclass|overload|contextmanager")
ITERATED = ("zip", "enumerate", "reversed", "range", "items", "keys", "values")
ITERATING = ("list", "tuple", "dict", "sorted", "sum", "any", "all", "enumerate", "zip", "min", "max")
STATEMENTS = (ast.Global, ast.AsyncFunctionDef, ast.AsyncFor, ast.AsyncWith, ast.Await, ast.Import, ast.Div)
FUNCTIONS = (ast.FunctionDef, ast.Lambda)
DOUBLE = ("__init__", "__len__", "__str__", "__eq__")


def bound_names(tree):
    """Names of variables and parameters, with those of functions and classes."""
    for node in ast.walk(tree):
        if isinstance(node, ast.Name) and isinstance(node.ctx, ast.Store):
            yield node.id
        elif isinstance(node, ast.arg):
            yield node.arg
        elif isinstance(node, (ast.FunctionDef, ast.ClassDef)):
            yield node.name


def inner_names(tree):
    """Names of variables and parameters within functions."""
    for node in ast.walk(tree):
        if isinstance(node, FUNCTIONS):
            for inner in ast.walk(node):
                if isinstance(inner, ast.Name) and isinstance(inner.ctx, ast.Store):
                    yield inner.id
                elif isinstance(inner, ast.arg):
                    yield inner.arg


def imports(tree):
    return [node for node in tree.body if isinstance(node, ast.ImportFrom)]


class Files(unittest.TestCase):
    def test_nothing_but_python_files(self):
        names = [path.name for path in FOLDER.iterdir() if path.name != "__pycache__"]
        self.assertIn("__init__.py", names)
        for name in names:
            self.assertRegex(name, r"^[a-z0-9_]+\.py$")

    def test_signs_and_sizes(self):
        for path in FILES:
            text = path.read_text(encoding="utf-8")
            self.assertNotRegex(text, r"[^ -~\n]", path.name)
            self.assertLessEqual(len(text.splitlines()), 400, path.name)
            for line in text.splitlines():
                self.assertLessEqual(len(line), 120, path.name)
            self.assertIsNone(WORDS.search(text), path.name)

    def test_short_functions(self):
        for path in FILES:
            for node in ast.walk(ast.parse(path.read_text())):
                if isinstance(node, ast.FunctionDef):
                    self.assertLessEqual(node.end_lineno - node.lineno + 1, 40, node.name)


class Code(unittest.TestCase):
    def trees(self):
        return [(path, ast.parse(path.read_text())) for path in FILES]

    def test_statements_and_values(self):
        for path, tree in self.trees():
            for node in ast.walk(tree):
                self.assertNotIsInstance(node, STATEMENTS, path.name)
                if isinstance(node, ast.Constant):
                    self.assertNotIsInstance(node.value, (float, complex), path.name)
                    self.assertNotIn("%", str(node.value), path.name)
                if isinstance(node, ast.Compare):
                    for sign, side in zip(node.ops, node.comparators):
                        if isinstance(sign, (ast.Is, ast.IsNot)):
                            self.assertIn(ast.unparse(side), ("None", "True", "False"))

    def test_module_level(self):
        for path, tree in self.trees():
            for node in tree.body:
                plain = (ast.ImportFrom, ast.FunctionDef, ast.ClassDef, ast.Assign, ast.Expr)
                self.assertIsInstance(node, plain, path.name)
            names = [alias.name for node in imports(tree) for alias in node.names]
            names += [node.name for node in tree.body if isinstance(node, (ast.FunctionDef, ast.ClassDef))]
            names += [node.targets[0].id for node in tree.body if isinstance(node, ast.Assign)]
            self.assertEqual(len(names), len(set(names)), path.name)

    def test_imports(self):
        for path, tree in self.trees():
            for node in imports(tree):
                self.assertRegex(node.module, r"^forkjoins\.[a-z]+$", path.name)
                home = ast.parse((FOLDER / (node.module.split(".")[1] + ".py")).read_text())
                for alias in node.names:
                    self.assertIsNone(alias.asname)
                    self.assertIn(alias.name, set(bound_names(home)))

    def test_no_ring_of_imports(self):
        needs = {path.stem: [node.module.split(".")[1] for node in imports(tree)] for path, tree in self.trees()}
        while needs:
            free = [name for name in needs if not needs[name]]
            self.assertTrue(free, needs)
            needs = {name: [need for need in needs[name] if need not in free] for name in needs if name not in free}

    def test_names(self):
        for path, tree in self.trees():
            for name in bound_names(tree):
                self.assertNotIn(name, BARRED, path.name)
                if name not in DOUBLE:
                    self.assertFalse(hasattr(builtins, name), (path.name, name))
                    self.assertFalse(name.startswith("_"), (path.name, name))
            taken = {alias.name for node in imports(tree) for alias in node.names}
            taken |= {node.name for node in tree.body if isinstance(node, ast.ClassDef)}
            self.assertEqual(taken & set(inner_names(tree)), set(), path.name)

    def test_builtins(self):
        for path, tree in self.trees():
            for node in ast.walk(tree):
                if isinstance(node, ast.Name) and hasattr(builtins, node.id):
                    self.assertIn(node.id, ALLOWED, path.name)

    def test_methods(self):
        own = {node.name for _, tree in self.trees() for node in ast.walk(tree) if isinstance(node, ast.FunctionDef)}
        for path, tree in self.trees():
            for node in ast.walk(tree):
                if isinstance(node, ast.Call) and isinstance(node.func, ast.Attribute):
                    self.assertIn(node.func.attr, METHODS | own, path.name)
                    self.assertTrue(node.func.attr in own or not node.keywords, path.name)

    def test_no_method_is_an_attribute(self):
        nodes = [node for _, tree in self.trees() for node in ast.walk(tree)]
        methods = {inner.name for node in nodes if isinstance(node, ast.ClassDef) for inner in node.body
                   if isinstance(inner, ast.FunctionDef)}
        stored = {node.attr for node in nodes if isinstance(node, ast.Attribute) and isinstance(node.ctx, ast.Store)}
        read = {node.attr for node in nodes if isinstance(node, ast.Attribute) and isinstance(node.ctx, ast.Load)}
        self.assertEqual(methods & stored, set())
        self.assertEqual(read - stored - methods - METHODS, set())

    def test_what_a_star_takes(self):
        for path, tree in self.trees():
            for node in ast.walk(tree):
                if isinstance(node, ast.Assign) and any(isinstance(part, ast.Starred) for part in ast.walk(node.targets[0])):
                    self.assertIsInstance(node.value, (ast.Name, ast.Attribute), path.name)

    def test_finally_is_simple(self):
        for path, tree in self.trees():
            for node in ast.walk(tree):
                if isinstance(node, ast.Try):
                    for row in node.finalbody:
                        self.assertIsInstance(row, (ast.Assign, ast.AugAssign), path.name)
                        self.assertIsInstance(row.value, ast.Constant, path.name)
                    for handler in node.handlers:
                        self.assertRegex(ast.unparse(handler.type), "^No[A-Z][a-z]+$", path.name)

    def test_sets_and_what_is_iterated_at_once(self):
        """A set stands in sorted or len, a dict's view in a loop or a call of those that iterate at once."""
        for path, tree in self.trees():
            above = {below: node for node in ast.walk(tree) for below in ast.iter_child_nodes(node)}
            for node in ast.walk(tree):
                self.assertNotIsInstance(node, ast.GeneratorExp, path.name)
                if isinstance(node, (ast.Set, ast.SetComp)):
                    self.assertIn(ast.unparse(above[node].func), ("sorted", "len"), path.name)
                if isinstance(node, ast.Call) and ast.unparse(node.func).split(".")[-1] in ITERATED:
                    home = above[node]
                    called = isinstance(home, ast.Call) and ast.unparse(home.func) in ITERATING
                    self.assertTrue(called or isinstance(home, (ast.For, ast.comprehension)), (path.name, ast.unparse(home)))
