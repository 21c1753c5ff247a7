"""Tests that the files of the package keep to those rules of LANGUAGE.md that a plain walk over the code can see."""

import ast
import builtins
import re
import unittest
from functools import cache
from pathlib import Path

PACKAGE = Path(__file__).resolve().parent.parent / "latestof"
BUILTINS = set(
    "len range enumerate zip min max sum abs sorted reversed int str bool bytes list tuple dict set frozenset "
    "isinstance ord repr any all divmod map iter next super property staticmethod classmethod type "
    "Exception ValueError TypeError KeyError IndexError LookupError ZeroDivisionError ArithmeticError OverflowError "
    "RuntimeError NotImplementedError AttributeError NotImplemented object".split())
METHODS = set(
    "append clear copy count endswith extend find get index insert isalnum isalpha isdigit islower isspace isupper "
    "items join keys ljust lower lstrip partition pop remove replace reverse rfind rjust rpartition rsplit rstrip "
    "setdefault split splitlines startswith strip update upper values zfill bit_length isascii isdecimal encode decode "
    "hex fromhex to_bytes from_bytes sort add discard __init__".split())
BARRED_IN_STRINGS = set(
    "type typing typing_extensions enum Enum IntEnum StrEnum Flag IntFlag Generic Protocol ABC ABCMeta namedtuple "
    "NamedTuple TypedDict TYPE_CHECKING abstractmethod".split())
BARRED = (BARRED_IN_STRINGS - {"type"}) | set(
    "register mro elements open input law version_info with_traceback add_note eval exec compile globals locals vars "
    "help id os gc getattr setattr delattr hasattr float complex chr pow print hash".split())
# Some of these are allowed in a few places. Doing without them is simpler than telling which places.
BARRED_NODES = (
    ast.AsyncFunctionDef, ast.AsyncFor, ast.AsyncWith, ast.Await, ast.Import, ast.Global, ast.Div, ast.MatMult, ast.Pow,
    ast.TryStar, ast.GeneratorExp, ast.AnnAssign,
)
PLAIN_LINE = re.compile(r"[ -~]*")
CONSUMERS = set("list tuple dict sorted sum min max any all enumerate zip".split())
DOUBLE_UNDERSCORES = {"__init__", "__eq__", "__str__", "__len__"}
# What L12 excludes. It allows `_wall` at the beginning of an attribute; doing without that is simpler.
PLAIN_NAME = re.compile(r"_?[A-Za-z][A-Za-z0-9_]*|_")
BARRED_BEGINNINGS = (
    "_wall", "_pe_", "_dcw_", "_enum_", "_cm_", "_twin_re_", "_lay_", "_law_", "_stub_", "_sre", "_WallAttr")
BARRED_WHOLE = re.compile(r"(_cold|_tuplegetter|_outside|_record|_written_out|_member_names)[0-9_]*")
BARRED_WORDS = re.compile(r"\b(_wall|_WallAttr)\b")
LIBRARY = ("heapq", "math", "itertools", "collections")


def files():
    return sorted(PACKAGE.rglob("*.py"))


@cache
def trees():
    return [(path, ast.parse(path.read_text(encoding="utf-8"))) for path in files()]


def name_of(path):
    parts = path.relative_to(PACKAGE.parent).with_suffix("").parts
    return ".".join(parts[:-1] if parts[-1] == "__init__" else parts)


def imports_of(tree):
    return [node for node in ast.walk(tree) if isinstance(node, ast.ImportFrom)]


def docstrings_of(tree):
    """Return the nodes of the docstrings."""
    kinds = (ast.Module, ast.ClassDef, ast.FunctionDef)
    holders = [node for node in ast.walk(tree) if isinstance(node, kinds) and ast.get_docstring(node) is not None]
    return [node.body[0].value for node in holders]


class Files(unittest.TestCase):
    def test_folders_contain_only_files_of_the_package(self):
        for path in PACKAGE.rglob("*"):
            if "__pycache__" in path.parts:
                continue
            if path.is_dir():
                self.assertTrue((path / "__init__.py").is_file(), path)
                self.assertFalse(path.with_suffix(".py").exists(), path)
            else:
                self.assertRegex(path.name, r"^[a-z0-9_]+\.py$")

    def test_lines(self):
        self.assertTrue(files())
        for path in files():
            text = path.read_text(encoding="utf-8")
            lines = text.split("\n")
            self.assertLessEqual(len(lines), 399, path)
            for number, line in enumerate(lines, 1):
                self.assertLessEqual(len(line), 120, (path, number))
                self.assertTrue(PLAIN_LINE.fullmatch(line), (path, number))

    def test_module_level(self):
        allowed = (ast.ImportFrom, ast.FunctionDef, ast.ClassDef, ast.Assign)
        for path, tree in trees():
            body = tree.body[1:] if ast.get_docstring(tree) is not None else tree.body
            for node in body:
                self.assertIsInstance(node, allowed, (path, node.lineno))

    def test_functions_are_short_and_plain(self):
        for path, tree in trees():
            for node in ast.walk(tree):
                if isinstance(node, ast.FunctionDef):
                    self.assertLessEqual(node.end_lineno - node.lineno + 1, 40, (path, node.name))


class Imports(unittest.TestCase):
    def test_each_names_the_file_that_defines_the_name(self):
        defined = {}
        for path, tree in trees():
            named = [node.name for node in tree.body if isinstance(node, (ast.FunctionDef, ast.ClassDef))]
            named += [node.targets[0].id for node in tree.body if isinstance(node, ast.Assign)]
            defined[name_of(path)] = named
        for path, tree in trees():
            for node in imports_of(tree):
                self.assertEqual(node.level, 0, path)
                if node.module in LIBRARY:
                    continue
                for alias in node.names:
                    self.assertIn(alias.name, defined[node.module], path)

    def test_no_circles(self):
        needs = {name_of(path): {node.module for node in imports_of(tree)} for path, tree in trees()}
        while True:
            free = [name for name in needs if not any(other in needs for other in needs[name])]
            if not free:
                break
            for name in free:
                del needs[name]
        self.assertEqual(needs, {})

    def test_each_imported_name_is_used(self):
        for path, tree in trees():
            used = {node.id for node in ast.walk(tree) if isinstance(node, ast.Name)}
            for node in imports_of(tree):
                for alias in node.names:
                    self.assertIsNone(alias.asname, path)
                    self.assertIn(alias.name, used, path)


def names_in(tree):
    """Return the pairs of a name and its node for all names that stand in the tree."""
    found = []
    for node in ast.walk(tree):
        if isinstance(node, ast.Attribute):
            found.append((node.attr, node))
        elif isinstance(node, ast.Name):
            found.append((node.id, node))
        elif isinstance(node, (ast.arg, ast.keyword)):
            found.append((node.arg, node))
        elif isinstance(node, (ast.FunctionDef, ast.ClassDef, ast.ExceptHandler, ast.MatchAs, ast.MatchStar)):
            found.append((node.name, node))
        elif isinstance(node, (ast.Global, ast.Nonlocal)):
            found.extend((name, node) for name in node.names)
        elif isinstance(node, ast.alias):
            found.append((node.name, node))
    # A star in a call, a handler or a pattern may have no name.
    return [(name, node) for name, node in found if name is not None]


def is_plain_name(name):
    """Return whether L12 allows the name."""
    if name in DOUBLE_UNDERSCORES:
        return True
    barred = name.startswith(BARRED_BEGINNINGS) or BARRED_WHOLE.fullmatch(name) is not None
    return PLAIN_NAME.fullmatch(name) is not None and not barred


def is_generator(node):
    return isinstance(node, ast.FunctionDef) and any(
        isinstance(part, (ast.Yield, ast.YieldFrom)) for part in ast.walk(node))


def iterated_at_once(tree):
    """Return the nodes that are iterated on the spot."""
    found = set()
    for node in ast.walk(tree):
        if isinstance(node, (ast.For, ast.comprehension)):
            found.add(node.iter)
        elif isinstance(node, ast.YieldFrom):
            found.add(node.value)
        elif isinstance(node, ast.Call) and isinstance(node.func, ast.Name) and node.func.id in CONSUMERS:
            found.update(node.args)
    return found


class Generators(unittest.TestCase):
    def generators(self):
        return {node.name for _, tree in trees() for node in ast.walk(tree) if is_generator(node)}

    def functions(self):
        """Return the generators at module level."""
        return {node.name for _, tree in trees() for node in tree.body if is_generator(node)}

    def test_names(self):
        named = [node.name for _, tree in trees() for node in ast.walk(tree) if isinstance(node, ast.FunctionDef)]
        for name in self.generators():
            self.assertEqual(named.count(name), 1, name)
            self.assertNotIn(name, METHODS)

    def test_calls_are_iterated_at_once(self):
        generators, functions = self.generators(), self.functions()
        for path, tree in trees():
            fitting = iterated_at_once(tree)
            calls = [node for node in ast.walk(tree) if isinstance(node, ast.Call)]
            called = {node.func for node in calls}
            for node in ast.walk(tree):
                if isinstance(node, ast.Name) and node.id in functions:
                    self.assertIn(node, called, (path, node.lineno))
                if isinstance(node, ast.Attribute) and node.attr in generators:
                    self.assertIn(node, called, (path, node.lineno))
            for node in calls:
                name = node.func.attr if isinstance(node.func, ast.Attribute) else getattr(node.func, "id", None)
                if name in generators:
                    self.assertIn(node, fitting, (path, node.lineno))
                    for part in node.args:
                        self.assertIsInstance(part, (ast.Name, ast.Attribute, ast.Constant), (path, node.lineno))

    def test_ranges_and_views_are_iterated_at_once(self):
        for path, tree in trees():
            fitting = iterated_at_once(tree)
            for node in ast.walk(tree):
                if not isinstance(node, ast.Call):
                    continue
                if isinstance(node.func, ast.Name):
                    wanted = node.func.id in ("range", "zip", "enumerate", "reversed")
                else:
                    wanted = isinstance(node.func, ast.Attribute) and node.func.attr in ("items", "keys", "values")
                if wanted:
                    self.assertIn(node, fitting, (path, node.lineno))

    def test_yields_are_statements_outside_of_try_and_with(self):
        for path, tree in trees():
            statements = {node.value for node in ast.walk(tree) if isinstance(node, ast.Expr)}
            for node in ast.walk(tree):
                if isinstance(node, (ast.Yield, ast.YieldFrom)):
                    self.assertIn(node, statements, (path, node.lineno))
                elif isinstance(node, (ast.Try, ast.With)):
                    inside = list(ast.walk(node))
                    self.assertFalse(any(isinstance(part, (ast.Yield, ast.YieldFrom)) for part in inside))


class Classes(unittest.TestCase):
    def classes(self):
        return [node for _, tree in trees() for node in tree.body if isinstance(node, ast.ClassDef)]

    def methods(self):
        return [node for built in self.classes() for node in built.body if isinstance(node, ast.FunctionDef)]

    def decorators_of(self, node):
        return [part.id if isinstance(part, ast.Name) else part.attr for part in node.decorator_list]

    def attributes(self):
        """Return the names of all attributes that are assigned anywhere, setters not counted."""
        found = {node.attr for _, tree in trees() for node in ast.walk(tree)
                 if isinstance(node, ast.Attribute) and isinstance(node.ctx, ast.Store)}
        return found - {node.name for node in self.methods() if "setter" in self.decorators_of(node)}

    def test_classes_stand_at_module_level_and_contain_methods_and_values(self):
        for path, tree in trees():
            nodes = [node for node in ast.walk(tree) if isinstance(node, ast.ClassDef)]
            self.assertEqual(nodes, [node for node in tree.body if isinstance(node, ast.ClassDef)], path)
        for node in self.classes():
            self.assertEqual((node.decorator_list, node.keywords), ([], []))
            for part in node.body[1 if ast.get_docstring(node) else 0:]:
                self.assertIsInstance(part, (ast.FunctionDef, ast.Assign), (node.name, part.lineno))
                if isinstance(part, ast.Assign):
                    self.assertIsInstance(part.value, ast.Constant)

    def test_decorators(self):
        for path, tree in trees():
            for node in ast.walk(tree):
                if isinstance(node, ast.FunctionDef) and node not in self.methods():
                    self.assertEqual(node.decorator_list, [], (path, node.lineno))
        for node in self.methods():
            self.assertIn(self.decorators_of(node), ([], ["property"], ["setter"], ["staticmethod"], ["classmethod"]))

    def test_no_name_is_a_method_and_an_attribute(self):
        names = {node.name for node in self.methods() if "setter" not in self.decorators_of(node)}
        self.assertFalse(names & self.attributes())
        self.assertFalse((names - {"__init__"}) & (METHODS - DOUBLE_UNDERSCORES))

    def test_names_of_properties_and_of_static_and_class_methods_are_free(self):
        kinds = {}
        for node in self.methods():
            kind = (self.decorators_of(node) + ["plain"])[0]
            kind = {"setter": "property", "classmethod": "staticmethod"}.get(kind, kind)
            kinds.setdefault(node.name, set()).add(kind)
        for name, found in kinds.items():
            self.assertEqual(len(found), 1, name)
            if found != {"plain"}:
                for value in ("", b"", 0, [], {}, set(), ()):
                    self.assertFalse(hasattr(value, name), name)

    def test_double_underscore_methods(self):
        for node in self.methods():
            if node.name not in DOUBLE_UNDERSCORES or node.name == "__init__":
                continue
            returns = [part.value for part in ast.walk(node) if isinstance(part, ast.Return)]
            self.assertIsInstance(node.body[-1], ast.Return)
            for part in ast.walk(node):
                if isinstance(part, ast.Assign):
                    self.assertIsInstance(part.targets[0], ast.Name, (node.name, part.lineno))
                    self.assertIsInstance(part.value, (ast.List, ast.Dict, ast.ListComp, ast.Call), node.name)
            if node.name == "__len__":
                self.assertEqual([value.func.id for value in returns], ["len"])
            if node.name == "__str__":
                for value in returns:
                    self.assertTrue(isinstance(value, (ast.Constant, ast.JoinedStr)) or value.func.id == "str"
                                    if not isinstance(getattr(value, "func", None), ast.Attribute)
                                    else value.func.attr == "join")

    def test_constructors_are_called_for_a_base_of_the_own_class_only(self):
        fitting = set()
        for built in self.classes():
            bases = [base.id for base in built.bases]
            inits = [node for node in built.body if isinstance(node, ast.FunctionDef) and node.name == "__init__"]
            for node in [part for init in inits for part in ast.walk(init) if isinstance(part, ast.Call)]:
                callee = node.func
                if not isinstance(callee, ast.Attribute) or callee.attr != "__init__":
                    continue
                if isinstance(callee.value, ast.Name):
                    self.assertIn(callee.value.id, bases, (built.name, node.lineno))
                    self.assertEqual(node.args[0].id, "self", (built.name, node.lineno))
                else:
                    self.assertEqual(ast.unparse(callee.value), "super()", (built.name, node.lineno))
                    self.assertEqual(len(bases), 1, (built.name, node.lineno))
                fitting.add(callee)
        for path, tree in trees():
            for node in ast.walk(tree):
                if isinstance(node, ast.Attribute) and node.attr == "__init__":
                    self.assertIn(node, fitting, (path, node.lineno))

    def test_properties_and_comparisons_change_nothing(self):
        for node in self.methods():
            decorators = self.decorators_of(node)
            if "property" in decorators or node.name in DOUBLE_UNDERSCORES - {"__init__"}:
                for part in ast.walk(node):
                    if isinstance(part, (ast.Attribute, ast.Subscript)):
                        self.assertIsInstance(part.ctx, ast.Load, (node.name, part.lineno))
                    self.assertNotIsInstance(part, (ast.AugAssign, ast.Delete))

    def test_attributes_that_are_read_are_assigned_or_methods(self):
        known = self.attributes() | {node.name for node in self.methods()} | METHODS | {"setter"}
        known |= {part.targets[0].id for node in self.classes() for part in node.body if isinstance(part, ast.Assign)}
        for path, tree in trees():
            for node in ast.walk(tree):
                if isinstance(node, ast.Attribute):
                    self.assertIn(node.attr, known, (path, node.lineno))

    def test_classes_are_called_or_named_only_where_they_may_be(self):
        names = {node.name for node in self.classes()}
        for path, tree in trees():
            fitting = set()
            for node in ast.walk(tree):
                if isinstance(node, ast.Call):
                    fitting.add(node.func)
                    if isinstance(node.func, ast.Name) and node.func.id == "isinstance":
                        fitting.update(getattr(node.args[1], "elts", [node.args[1]]))
                elif isinstance(node, ast.ClassDef):
                    fitting.update(node.bases)
                elif isinstance(node, ast.ExceptHandler):
                    fitting.update(getattr(node.type, "elts", [node.type]))
                elif isinstance(node, ast.Attribute):
                    fitting.add(node.value)
            for node in ast.walk(tree):
                if isinstance(node, ast.Name) and node.id in names:
                    self.assertIn(node, fitting, (path, node.lineno))


class Errors(unittest.TestCase):
    def test_only_own_errors_are_caught(self):
        own = {node.name for path, tree in trees() for node in tree.body
               if isinstance(node, ast.ClassDef) and path.name == "errors.py"}
        for path, tree in trees():
            for node in ast.walk(tree):
                if isinstance(node, ast.ExceptHandler):
                    for part in getattr(node.type, "elts", [node.type]):
                        self.assertIn(part.id, own, (path, node.lineno))

    def test_errors_are_made_where_they_are_raised(self):
        for path, tree in trees():
            for node in ast.walk(tree):
                if isinstance(node, ast.Raise):
                    self.assertIsInstance(node.exc, ast.Call, (path, node.lineno))
                    self.assertIsInstance(node.exc.func, ast.Name, (path, node.lineno))
                    self.assertTrue(node.cause is None or node.cause.value is None, (path, node.lineno))

    def test_finally_only_assigns_names_to_attributes(self):
        for path, tree in trees():
            for node in ast.walk(tree):
                if isinstance(node, ast.Try):
                    for part in node.finalbody:
                        self.assertIsInstance(part, ast.Assign, (path, part.lineno))
                        targets = getattr(part.targets[0], "elts", part.targets)
                        values = getattr(part.value, "elts", [part.value])
                        self.assertTrue(all(isinstance(target, (ast.Name, ast.Attribute)) for target in targets))
                        self.assertTrue(all(isinstance(value, ast.Name) for value in values))


class Words(unittest.TestCase):
    def test_no_statement_or_expression_outside_the_subset(self):
        for path, tree in trees():
            for node in ast.walk(tree):
                self.assertNotIsInstance(node, BARRED_NODES, (path, getattr(node, "lineno", 0)))
                if isinstance(node, ast.Constant):
                    self.assertNotIsInstance(node.value, (float, complex), (path, node.lineno))

    def test_names(self):
        for path, tree in trees():
            for node in ast.walk(tree):
                if isinstance(node, ast.Name):
                    self.assertNotIn(node.id, BARRED, (path, node.lineno))
                    if hasattr(builtins, node.id):
                        self.assertIn(node.id, BUILTINS, (path, node.lineno))
                        self.assertIsInstance(node.ctx, ast.Load, (path, node.lineno))
                    if node.id == "_":
                        self.assertIsInstance(node.ctx, ast.Store, (path, node.lineno))
                elif isinstance(node, ast.arg):
                    self.assertFalse(hasattr(builtins, node.arg), (path, node.lineno))
                elif isinstance(node, (ast.FunctionDef, ast.ClassDef)) and node.name not in DOUBLE_UNDERSCORES:
                    self.assertFalse(hasattr(builtins, node.name), (path, node.lineno))
                    self.assertFalse(node.name.startswith("__"), (path, node.lineno))

    def test_plain_names(self):
        for path, tree in trees():
            for name, node in names_in(tree):
                self.assertTrue(is_plain_name(name), (path, getattr(node, "lineno", 0), name))
                if isinstance(node, ast.ClassDef):
                    self.assertFalse(name.startswith("_"), (path, node.lineno))

    def test_plain_names_are_told_from_others(self):
        for name in ("rows", "_rows", "Plan", "_", "n2", "_log", "_records", "_recorded", "_coldest", "record", "__len__"):
            self.assertTrue(is_plain_name(name), name)
        for name in ("_record", "_record_", "_record2", "_cold", "_outside", "_member_names", "_tuplegetter",
                     "_written_out", "_walls", "_law_of", "_sre", "_cm_", "__rows", "__", "_2", "_WallAttr", "__hash__"):
            self.assertFalse(is_plain_name(name), name)

    def test_barred_words_stand_nowhere(self):
        for path in files():
            self.assertIsNone(BARRED_WORDS.search(path.read_text(encoding="utf-8")), path)

    def test_no_variable_has_the_name_of_an_import(self):
        for path, tree in trees():
            imported = {alias.name for node in imports_of(tree) for alias in node.names}
            for node in ast.walk(tree):
                if isinstance(node, ast.Name) and isinstance(node.ctx, ast.Store):
                    self.assertNotIn(node.id, imported, (path, node.lineno))
                elif isinstance(node, ast.arg):
                    self.assertNotIn(node.arg, imported, (path, node.lineno))

    def test_methods(self):
        own = {node.name for _, tree in trees() for node in ast.walk(tree) if isinstance(node, ast.FunctionDef)}
        for path, tree in trees():
            for node in ast.walk(tree):
                if isinstance(node, ast.Call) and isinstance(node.func, ast.Attribute):
                    self.assertIn(node.func.attr, METHODS | own, (path, node.lineno))

    def test_is_and_percent(self):
        for path, tree in trees():
            for node in ast.walk(tree):
                if isinstance(node, ast.Compare):
                    for sign, right in zip(node.ops, node.comparators):
                        if isinstance(sign, (ast.Is, ast.IsNot)):
                            self.assertIn(getattr(right, "value", 0), (None, True, False), (path, node.lineno))
                if isinstance(node, ast.BinOp) and isinstance(node.op, ast.Mod):
                    self.assertEqual(getattr(getattr(node.left, "func", None), "id", None), "sum", (path, node.lineno))

    def test_stars_stand_before_names(self):
        for path, tree in trees():
            for node in ast.walk(tree):
                if isinstance(node, ast.Call):
                    for part in node.args:
                        if isinstance(part, ast.Starred):
                            self.assertIsInstance(part.value, ast.Name, (path, node.lineno))

    def test_sets_are_used_on_the_spot(self):
        for path, tree in trees():
            fitting = set()
            for node in ast.walk(tree):
                if isinstance(node, ast.Call) and isinstance(node.func, ast.Name) and node.func.id in ("sorted", "len"):
                    fitting.update(node.args)
            for node in ast.walk(tree):
                if isinstance(node, (ast.Set, ast.SetComp)) or (
                        isinstance(node, ast.Call) and isinstance(node.func, ast.Name) and node.func.id == "set"):
                    self.assertIn(node, fitting, (path, node.lineno))

    def test_strings(self):
        for path, tree in trees():
            docstrings = docstrings_of(tree)
            for node in ast.walk(tree):
                if isinstance(node, ast.Constant) and isinstance(node.value, str) and node not in docstrings:
                    self.assertNotIn("%", node.value, (path, node.lineno))
                    self.assertFalse(set(re.findall(r"\w+", node.value)) & BARRED_IN_STRINGS, (path, node.lineno))


if __name__ == "__main__":
    unittest.main()
