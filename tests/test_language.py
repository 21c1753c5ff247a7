"""Tests that the files of the package keep to those rules of LANGUAGE.md that a plain walk over the code can see."""

import ast
import builtins
import re
import unittest
from pathlib import Path

PACKAGE = Path(__file__).resolve().parent.parent / "latestof"
BUILTINS = set(
    "len range enumerate zip min max sum abs sorted reversed int str bool bytes list tuple dict set frozenset "
    "isinstance ord repr any all divmod map iter next super property staticmethod classmethod type "
    "Exception ValueError TypeError KeyError IndexError LookupError ZeroDivisionError ArithmeticError OverflowError "
    "RuntimeError NotImplementedError AttributeError NotImplemented object".split())
METHODS = set(
    "append clear copy count endswith extend find get index insert isalnum isalpha isdigit islower isspace isupper "
    "items join keys ljust lower lstrip partition pop remove replace reverse rfind rjust rpartition rsplit rstrip "
    "setdefault split splitlines startswith strip update upper values zfill bit_length isascii isdecimal encode decode "
    "hex fromhex to_bytes from_bytes sort add discard __init__".split())
BARRED_IN_STRINGS = set(
    "type typing typing_extensions enum Enum IntEnum StrEnum Flag IntFlag Generic Protocol ABC ABCMeta namedtuple "
    "NamedTuple TypedDict TYPE_CHECKING abstractmethod".split())
BARRED = (BARRED_IN_STRINGS - {"type"}) | set(
    "register mro elements open input law version_info with_traceback add_note eval exec compile globals locals vars "
    "help id os gc getattr setattr delattr hasattr float complex chr pow print hash".split())
# Some of these are allowed in a few places. Doing without them is simpler than telling which places.
BARRED_NODES = (
    ast.AsyncFunctionDef, ast.AsyncFor, ast.AsyncWith, ast.Await, ast.Import, ast.Global, ast.Div, ast.MatMult, ast.Pow,
    ast.TryStar, ast.GeneratorExp, ast.AnnAssign,
)
PLAIN_LINE = re.compile(r"[ -~]*")
LIBRARY = ("heapq", "math", "itertools", "collections")


def files():
    return sorted(PACKAGE.rglob("*.py"))


def trees():
    return [(path, ast.parse(path.read_text(encoding="utf-8"))) for path in files()]


def name_of(path):
    parts = path.relative_to(PACKAGE.parent).with_suffix("").parts
    return ".".join(parts[:-1] if parts[-1] == "__init__" else parts)


def imports_of(tree):
    return [node for node in ast.walk(tree) if isinstance(node, ast.ImportFrom)]


def docstrings_of(tree):
    """Return the nodes of the docstrings."""
    kinds = (ast.Module, ast.ClassDef, ast.FunctionDef)
    holders = [node for node in ast.walk(tree) if isinstance(node, kinds) and ast.get_docstring(node) is not None]
    return [node.body[0].value for node in holders]


class Files(unittest.TestCase):
    def test_folders_contain_only_files_of_the_package(self):
        for path in PACKAGE.rglob("*"):
            if "__pycache__" in path.parts:
                continue
            if path.is_dir():
                self.assertTrue((path / "__init__.py").is_file(), path)
                self.assertFalse(path.with_suffix(".py").exists(), path)
            else:
                self.assertRegex(path.name, r"^[a-z0-9_]+\.py$")

    def test_lines(self):
        self.assertTrue(files())
        for path in files():
            text = path.read_text(encoding="utf-8")
            lines = text.split("\n")
            self.assertLessEqual(len(lines), 399, path)
            for number, line in enumerate(lines, 1):
                self.assertLessEqual(len(line), 120, (path, number))
                self.assertTrue(PLAIN_LINE.fullmatch(line), (path, number))

    def test_module_level(self):
        allowed = (ast.ImportFrom, ast.FunctionDef, ast.ClassDef, ast.Assign)
        for path, tree in trees():
            body = tree.body[1:] if ast.get_docstring(tree) is not None else tree.body
            for node in body:
                self.assertIsInstance(node, allowed, (path, node.lineno))

    def test_functions_are_short_and_plain(self):
        for path, tree in trees():
            for node in ast.walk(tree):
                if isinstance(node, ast.FunctionDef):
                    self.assertLessEqual(node.end_lineno - node.lineno + 1, 40, (path, node.name))


class Imports(unittest.TestCase):
    def test_each_names_the_file_that_defines_the_name(self):
        defined = {}
        for path, tree in trees():
            named = [node.name for node in tree.body if isinstance(node, (ast.FunctionDef, ast.ClassDef))]
            named += [node.targets[0].id for node in tree.body if isinstance(node, ast.Assign)]
            defined[name_of(path)] = named
        for path, tree in trees():
            for node in imports_of(tree):
                self.assertEqual(node.level, 0, path)
                if node.module in LIBRARY:
                    continue
                for alias in node.names:
                    self.assertIn(alias.name, defined[node.module], path)

    def test_no_circles(self):
        needs = {name_of(path): {node.module for node in imports_of(tree)} for path, tree in trees()}
        while True:
            free = [name for name in needs if not any(other in needs for other in needs[name])]
            if not free:
                break
            for name in free:
                del needs[name]
        self.assertEqual(needs, {})

    def test_each_imported_name_is_used(self):
        for path, tree in trees():
            used = {node.id for node in ast.walk(tree) if isinstance(node, ast.Name)}
            for node in imports_of(tree):
                for alias in node.names:
                    self.assertIsNone(alias.asname, path)
                    self.assertIn(alias.name, used, path)


class Generators(unittest.TestCase):
    CONSUMERS = set("list tuple dict sorted sum min max any all enumerate zip".split())

    def generators(self):
        return {node.name for _, tree in trees() for node in ast.walk(tree) if isinstance(node, ast.FunctionDef)
                and any(isinstance(part, (ast.Yield, ast.YieldFrom)) for part in ast.walk(node))}

    def test_names(self):
        named = [node.name for _, tree in trees() for node in ast.walk(tree) if isinstance(node, ast.FunctionDef)]
        for name in self.generators():
            self.assertEqual(named.count(name), 1, name)
            self.assertNotIn(name, METHODS)

    def test_calls_are_iterated_at_once(self):
        generators = self.generators()
        for path, tree in trees():
            fitting = set()
            for node in ast.walk(tree):
                if isinstance(node, (ast.For, ast.comprehension)):
                    fitting.add(node.iter)
                elif isinstance(node, ast.YieldFrom):
                    fitting.add(node.value)
                elif isinstance(node, ast.Call) and isinstance(node.func, ast.Name) and node.func.id in self.CONSUMERS:
                    fitting.update(node.args[:1])
            calls = [node for node in ast.walk(tree) if isinstance(node, ast.Call)]
            called = [node.func for node in calls]
            for node in ast.walk(tree):
                if isinstance(node, ast.Name) and node.id in generators:
                    self.assertIn(node, called, (path, node.lineno))
            for node in calls:
                if isinstance(node.func, ast.Name) and node.func.id in generators:
                    self.assertIn(node, fitting, (path, node.lineno))
                    for part in node.args:
                        self.assertIsInstance(part, (ast.Name, ast.Attribute, ast.Constant), (path, node.lineno))

    def test_yields_are_statements_outside_of_try_and_with(self):
        for path, tree in trees():
            statements = {node.value for node in ast.walk(tree) if isinstance(node, ast.Expr)}
            for node in ast.walk(tree):
                if isinstance(node, (ast.Yield, ast.YieldFrom)):
                    self.assertIn(node, statements, (path, node.lineno))
                elif isinstance(node, (ast.Try, ast.With)):
                    inside = list(ast.walk(node))
                    self.assertFalse(any(isinstance(part, (ast.Yield, ast.YieldFrom)) for part in inside))


class Words(unittest.TestCase):
    def test_no_statement_or_expression_outside_the_subset(self):
        for path, tree in trees():
            for node in ast.walk(tree):
                self.assertNotIsInstance(node, BARRED_NODES, (path, getattr(node, "lineno", 0)))
                if isinstance(node, ast.Constant):
                    self.assertNotIsInstance(node.value, (float, complex), (path, node.lineno))

    def test_names(self):
        for path, tree in trees():
            for node in ast.walk(tree):
                if isinstance(node, ast.Name):
                    self.assertNotIn(node.id, BARRED, (path, node.lineno))
                    if hasattr(builtins, node.id):
                        self.assertIn(node.id, BUILTINS, (path, node.lineno))
                        self.assertIsInstance(node.ctx, ast.Load, (path, node.lineno))
                    if node.id == "_":
                        self.assertIsInstance(node.ctx, ast.Store, (path, node.lineno))
                elif isinstance(node, ast.arg):
                    self.assertFalse(hasattr(builtins, node.arg), (path, node.lineno))
                elif isinstance(node, (ast.FunctionDef, ast.ClassDef)) and node.name != "__init__":
                    self.assertFalse(hasattr(builtins, node.name), (path, node.lineno))

    def test_no_variable_has_the_name_of_an_import(self):
        for path, tree in trees():
            imported = {alias.name for node in imports_of(tree) for alias in node.names}
            for node in ast.walk(tree):
                if isinstance(node, ast.Name) and isinstance(node.ctx, ast.Store):
                    self.assertNotIn(node.id, imported, (path, node.lineno))
                elif isinstance(node, ast.arg):
                    self.assertNotIn(node.arg, imported, (path, node.lineno))

    def test_methods(self):
        own = {node.name for _, tree in trees() for node in ast.walk(tree) if isinstance(node, ast.FunctionDef)}
        for path, tree in trees():
            for node in ast.walk(tree):
                if isinstance(node, ast.Call) and isinstance(node.func, ast.Attribute):
                    self.assertIn(node.func.attr, METHODS | own, (path, node.lineno))

    def test_strings(self):
        for path, tree in trees():
            docstrings = docstrings_of(tree)
            for node in ast.walk(tree):
                if isinstance(node, ast.Constant) and isinstance(node.value, str) and node not in docstrings:
                    self.assertNotIn("%", node.value, (path, node.lineno))
                    self.assertFalse(set(re.findall(r"\w+", node.value)) & BARRED_IN_STRINGS, (path, node.lineno))


if __name__ == "__main__":
    unittest.main()
