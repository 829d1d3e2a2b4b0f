"""Point [1] and the rules of the language that a reader of the package's files can hold against them."""

import ast
import builtins
import functools
import pathlib
import re
import unittest

PACKAGE = pathlib.Path(__file__).resolve().parent.parent / "tidewaiter"
FILES = sorted(PACKAGE.rglob("*.py"))
ERRORS = {"Exception", "ValueError", "TypeError", "KeyError", "IndexError", "LookupError", "ZeroDivisionError",
          "ArithmeticError", "OverflowError", "RuntimeError", "NotImplementedError", "StopIteration"}
BUILTINS = ERRORS | set(
    "len range enumerate zip min max sum abs sorted reversed int str bool list tuple dict set isinstance ord repr "
    "any all divmod iter next super NotImplemented property staticmethod classmethod".split())
METHODS = set(
    "append clear copy count endswith extend find get index insert isalnum isalpha isdigit islower isspace isupper "
    "items join keys ljust lower lstrip partition pop remove replace reverse rfind rjust rpartition rsplit rstrip "
    "setdefault split splitlines startswith strip update upper values zfill bit_length add discard "
    "removeprefix removesuffix __init__".split())
DUNDERS = {"__init__", "__eq__", "__repr__", "__str__", "__len__", "__call__", "__enter__", "__exit__", "__iter__"}
BARRED_NAMES = set(
    "register mro elements open input law version_info with_traceback add_note attrgetter breakpoint builtins compile "
    "copyright credits delattr dir eval exec exit gc getattr globals hasattr help id importlib license locals "
    "methodcaller os quit setattr type vars sys __name__".split())
BARRED_WORDS = re.compile(
    r"\b(type|typing|typing_extensions|enum|Enum|IntEnum|StrEnum|Flag|IntFlag|Generic|Protocol|ABC|ABCMeta|namedtuple|"
    r"NamedTuple|TypedDict|TYPE_CHECKING|abstractmethod)\b|dataclass|overload|contextmanager")
BARRED_NODES = (ast.Global, ast.AsyncFunctionDef, ast.AsyncFor, ast.AsyncWith, ast.Await, ast.Div, ast.MatMult,
                ast.Import, ast.TryStar)
FUNCTIONS = (ast.FunctionDef, ast.Lambda)


@functools.lru_cache(None)
def trees():
    return [(path, ast.parse(path.read_text())) for path in FILES]


def nodes(tree, *kinds):
    return [node for node in ast.walk(tree) if isinstance(node, kinds)]


@functools.lru_cache(None)
def own_methods():
    return {row.name for path, tree in trees() for kind in nodes(tree, ast.ClassDef) for row in kind.body
            if isinstance(row, ast.FunctionDef)}


def defined(tree):
    """The names that a file binds at module level, imports left out."""
    found = [row.name for row in tree.body if isinstance(row, (ast.FunctionDef, ast.ClassDef))]
    return found + [target.id for row in tree.body if isinstance(row, ast.Assign) for target in row.targets]


def imported(tree):
    return [(row.module, name.asname or name.name) for row in nodes(tree, ast.ImportFrom) for name in row.names]


def bound(tree):
    """All names that a file gives a meaning, by whatever means."""
    found = [node.name for node in nodes(tree, ast.FunctionDef, ast.ClassDef, ast.ExceptHandler) if node.name]
    found += [node.arg for node in nodes(tree, ast.arg)]
    found += [node.id for node in nodes(tree, ast.Name) if isinstance(node.ctx, ast.Store)]
    return found + [node.attr for node in nodes(tree, ast.Attribute) if isinstance(node.ctx, ast.Store)]


class Files(unittest.TestCase):
    def test_folder_has_plain_files_alone(self):
        self.assertIn(PACKAGE / "__init__.py", FILES)
        for path in PACKAGE.rglob("*"):
            if "__pycache__" not in path.parts:
                self.assertRegex(path.name, r"^[a-z0-9_]+\.py$")

    def test_size_and_signs(self):
        for path in FILES:
            text = path.read_bytes().decode("ascii")
            self.assertRegex(text, r"\A[ -~\n]*\Z")
            self.assertLessEqual(len(text.splitlines()), 399)
            self.assertLessEqual(max(map(len, text.splitlines())), 120)
            self.assertIsNone(BARRED_WORDS.search(text), path)

    def test_functions_are_short(self):
        for path, tree in trees():
            for node in nodes(tree, ast.FunctionDef):
                self.assertLessEqual(node.end_lineno - node.lineno + 1, 40, node.name)


class Imports(unittest.TestCase):
    def test_each_names_the_file_that_defines_it(self):
        told = {f"tidewaiter.{path.stem}": defined(tree) for path, tree in trees()}
        for path, tree in trees():
            for source, name in imported(tree):
                self.assertIn(name, told[source], (path, source))

    def test_no_ring_of_imports(self):
        left = {f"tidewaiter.{path.stem}": {source for source, name in imported(tree)} for path, tree in trees()}
        while left:
            free = [name for name, sources in left.items() if not sources & set(left)]
            self.assertTrue(free, left)
            for name in free:
                del left[name]

    def test_they_stand_at_the_top(self):
        for path, tree in trees():
            body = tree.body[1:] if ast.get_docstring(tree) else tree.body
            kinds = [isinstance(row, ast.ImportFrom) for row in body]
            self.assertEqual(kinds, sorted(kinds, reverse=True), path)
            self.assertEqual(sum(kinds), len(nodes(tree, ast.ImportFrom)), path)


class Names(unittest.TestCase):
    def test_no_other_builtin_is_used(self):
        # So there is no clock, no chance and no file: point [1].
        for path, tree in trees():
            known = set(bound(tree)) | {name for source, name in imported(tree)}
            for node in nodes(tree, ast.Name):
                self.assertTrue(node.id in known or node.id in BUILTINS, (path, node.lineno, node.id))

    def test_no_builtin_gets_another_meaning(self):
        for path, tree in trees():
            plain = set(bound(tree)) - own_methods()
            attributes = {node.attr for node in nodes(tree, ast.Attribute)}
            self.assertEqual((plain - attributes) & set(dir(builtins)), set(), path)

    def test_plain_names(self):
        for path, tree in trees():
            for name in bound(tree):
                self.assertTrue(name in DUNDERS or re.fullmatch("[A-Za-z][A-Za-z0-9_]*", name), (path, name))
                self.assertNotIn(name, BARRED_NAMES)

    def test_bound_once_at_module_level(self):
        for path, tree in trees():
            names = defined(tree) + [name for source, name in imported(tree)]
            self.assertEqual(len(names), len(set(names)), path)

    def test_no_local_name_hides_a_class_or_an_import(self):
        for path, tree in trees():
            held = {name for source, name in imported(tree)} | {node.name for node in nodes(tree, ast.ClassDef)}
            for function in nodes(tree, *FUNCTIONS):
                for node in ast.walk(function):
                    name = node.arg if isinstance(node, ast.arg) else None
                    if isinstance(node, ast.Name) and isinstance(node.ctx, ast.Store):
                        name = node.id
                    self.assertNotIn(name, held, path)

    def test_methods_and_attributes_are_apart(self):
        attributes = {node.attr for path, tree in trees() for node in nodes(tree, ast.Attribute)
                      if isinstance(node.ctx, ast.Store)}
        self.assertEqual(attributes & own_methods(), set())

    def test_methods_called(self):
        for path, tree in trees():
            for node in nodes(tree, ast.Call):
                if isinstance(node.func, ast.Attribute):
                    self.assertIn(node.func.attr, METHODS | own_methods(), (path, node.lineno))


class Statements(unittest.TestCase):
    def test_barred_statements(self):
        for path, tree in trees():
            self.assertEqual(nodes(tree, *BARRED_NODES), [], path)
            self.assertEqual([node for node in nodes(tree, ast.Constant) if isinstance(node.value, float)], [])

    def test_module_level(self):
        for path, tree in trees():
            for at, row in enumerate(tree.body):
                if at == 0 and isinstance(row, ast.Expr):
                    self.assertIsInstance(row.value.value, str)
                    continue
                self.assertIsInstance(row, (ast.ImportFrom, ast.FunctionDef, ast.ClassDef, ast.Assign), path)

    def test_tables_at_module_level_are_only_read(self):
        tables = {target.id for path, tree in trees() for row in tree.body if isinstance(row, ast.Assign)
                  and isinstance(row.value, (ast.Dict, ast.List)) for target in row.targets}
        self.assertTrue({"FORMS", "ANSWERS", "PAIR_RULES"} <= tables)
        for path, tree in trees():
            fine = [node.value for node in nodes(tree, ast.Subscript) if isinstance(node.ctx, ast.Load)]
            fine += [side for node in nodes(tree, ast.Compare) for side in node.comparators]
            fine += [node.iter for node in nodes(tree, ast.For, ast.comprehension)]
            fine += [side for node in nodes(tree, ast.Call) if isinstance(node.func, ast.Name)
                     and node.func.id in ("list", "dict", "len") for side in node.args]
            for node in nodes(tree, ast.Name):
                if node.id in tables and isinstance(node.ctx, ast.Load):
                    self.assertIn(node, fine, (path, node.lineno, node.id))

    def test_functions_of_tables_get_a_name_first(self):
        for path, tree in trees():
            for node in nodes(tree, ast.Call):
                self.assertIsInstance(node.func, (ast.Name, ast.Attribute), (path, node.lineno))

    def test_behind_a_star_of_a_call_stands_a_name(self):
        for path, tree in trees():
            for node in nodes(tree, ast.Call):
                for side in node.args:
                    if isinstance(side, ast.Starred):
                        self.assertIsInstance(side.value, (ast.Name, ast.Attribute), (path, node.lineno))

    def test_is_stands_beside_none_and_truths(self):
        for path, tree in trees():
            for node in nodes(tree, ast.Compare):
                for sign, side in zip(node.ops, node.comparators):
                    if isinstance(sign, (ast.Is, ast.IsNot)):
                        self.assertIn(getattr(side, "value", "no literal"), (None, True, False), (path, node.lineno))

    def test_strings(self):
        for path, tree in trees():
            for node in nodes(tree, ast.Constant):
                if isinstance(node.value, str):
                    self.assertNotIn("%", node.value, (path, node.lineno))

    def test_any_and_its_kin_take_lists(self):
        # There is a class with __eq__, and the language then bars generator expressions from these.
        for path, tree in trees():
            for node in nodes(tree, ast.Call):
                if isinstance(node.func, ast.Name) and node.func.id in ("any", "all", "min", "max", "sum", "sorted"):
                    self.assertEqual([side for side in node.args if isinstance(side, ast.GeneratorExp)], [], path)

    def test_own_errors_alone_are_caught(self):
        own = {node.name for path, tree in trees() if path.stem == "errors" for node in nodes(tree, ast.ClassDef)}
        for path, tree in trees():
            for node in nodes(tree, ast.ExceptHandler):
                for kind in node.type.elts if isinstance(node.type, ast.Tuple) else [node.type]:
                    self.assertIn(getattr(kind, "id", None), own | {"KeyError", "ZeroDivisionError"}, path)

    def test_len_tells_a_len(self):
        for path, tree in trees():
            for function in [node for node in nodes(tree, ast.FunctionDef) if node.name == "__len__"]:
                for node in nodes(function, ast.Return):
                    self.assertEqual(ast.unparse(node)[:11], "return len(", path)

    def test_raise_makes_its_error_on_the_spot(self):
        for path, tree in trees():
            for node in nodes(tree, ast.Raise):
                if node.exc is not None:
                    self.assertIsInstance(node.exc, ast.Call, (path, node.lineno))
                    self.assertIsInstance(node.exc.func, ast.Name, (path, node.lineno))


if __name__ == "__main__":
    unittest.main()
