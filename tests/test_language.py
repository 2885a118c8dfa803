"""What can be seen quickly of the rules of LANGUAGE.md; it does not see all of them."""

import ast
import builtins
import re
import unittest
import warnings
from pathlib import Path

import rooklands

FOLDER = Path(rooklands.__file__).parent
BARRED_NODES = (
    ast.With, ast.Match, ast.Global, ast.Nonlocal, ast.Yield, ast.YieldFrom, ast.AsyncFunctionDef, ast.Await,
    ast.GeneratorExp, ast.NamedExpr, ast.Div, ast.Import,
)
BARRED_WORDS = re.compile(
    r"\b(type|typing|typing_extensions|enum|Enum|IntEnum|StrEnum|Flag|IntFlag|Generic|Protocol|ABC|ABCMeta"
    r"|namedtuple|NamedTuple|TypedDict|TYPE_CHECKING|abstractmethod)\b|dataclass|overload|contextmanager"
)
ALLOWED_BUILTINS = set(
    "len range enumerate zip min max sum abs sorted reversed int str bool bytes list tuple dict set frozenset"
    " isinstance ord repr any all divmod Exception ValueError TypeError KeyError IndexError LookupError"
    " ZeroDivisionError ArithmeticError OverflowError RuntimeError NotImplementedError AttributeError"
    " StopIteration".split()
)


def names_defined_in(tree):
    """The names that a file gives a meaning at module level, but by imports."""
    found = []
    for node in tree.body:
        if isinstance(node, (ast.FunctionDef, ast.ClassDef)):
            found.append(node.name)
        elif isinstance(node, ast.Assign):
            found.extend(target.id for target in node.targets)
    return found


def imports_of(tree):
    """Each name that a file imports, with the module that it is imported from."""
    return [(alias.name, node.module) for node in tree.body if isinstance(node, ast.ImportFrom) for alias in node.names]


def names_imported_in(tree):
    """Each name by which a file calls what it imports."""
    nodes = [node for node in tree.body if isinstance(node, ast.ImportFrom)]
    return [alias.asname or alias.name for node in nodes for alias in node.names]


def names_bound_in(tree):
    """Each name that a file gives a meaning, with its line."""
    for node in ast.walk(tree):
        if isinstance(node, ast.Name) and isinstance(node.ctx, ast.Store):
            yield node.id, node.lineno
        elif isinstance(node, ast.arg):
            yield node.arg, node.lineno
        elif isinstance(node, (ast.FunctionDef, ast.ClassDef)):
            yield node.name, node.lineno


class LanguageTest(unittest.TestCase):
    def setUp(self):
        self.files = {path: path.read_text(encoding="utf-8") for path in sorted(FOLDER.glob("**/*.py"))}
        self.trees = {path: ast.parse(text) for path, text in self.files.items()}

    def test_the_folder_has_only_files_of_python(self):
        self.assertIn(FOLDER / "__init__.py", self.files)
        for path in FOLDER.iterdir():
            if path.name != "__pycache__":
                self.assertRegex(path.name, r"^[a-z0-9_]+\.py$")

    def test_size_and_signs(self):
        for path, text in self.files.items():
            self.assertRegex(text, r"\A[ -~\n]*\Z", path)
            self.assertNotRegex(text, BARRED_WORDS, path)
            lines = text.splitlines()
            self.assertLessEqual(len(lines), 400, path)
            self.assertLessEqual(max(len(line) for line in lines), 120, path)

    def test_functions_are_small_and_plain(self):
        for path, tree in self.trees.items():
            for node in ast.walk(tree):
                if isinstance(node, ast.FunctionDef):
                    where = (path, node.name)
                    self.assertLessEqual(node.end_lineno - node.lineno + 1, 40, where)
                    self.assertEqual(node.decorator_list, [], where)
                    self.assertIsNone(node.args.vararg, where)
                    self.assertIsNone(node.args.kwarg, where)

    def test_nothing_barred_is_used(self):
        for path, tree in self.trees.items():
            for node in ast.walk(tree):
                where = (path, getattr(node, "lineno", 0))
                self.assertNotIsInstance(node, BARRED_NODES, where)
                if isinstance(node, (ast.For, ast.While)):
                    self.assertEqual(node.orelse, [], where)
                if isinstance(node, ast.Constant):
                    self.assertNotIsInstance(node.value, (float, complex), where)
                    self.assertNotIn("%", str(node.value), where)
                if isinstance(node, ast.ImportFrom):
                    self.assertTrue(node.module.startswith("rooklands.") and node.level == 0, where)

    def test_only_listed_builtins_are_read_and_none_is_bound(self):
        for path, tree in self.trees.items():
            for node in ast.walk(tree):
                if isinstance(node, ast.Name) and hasattr(builtins, node.id):
                    self.assertIn(node.id, ALLOWED_BUILTINS, (path, node.lineno))
            for name, line in names_bound_in(tree):
                self.assertFalse(hasattr(builtins, name) and name != "__init__", (path, line, name))
                self.assertFalse(name.startswith("_") and not name.endswith("__"), (path, line, name))

    def test_no_name_is_given_two_meanings(self):
        for path, tree in self.trees.items():
            imported = names_imported_in(tree)
            top = imported + names_defined_in(tree)
            self.assertEqual(len(set(top)), len(top), path)
            for name, line in names_bound_in(tree):
                self.assertNotIn(name, imported, (path, line))

    def test_imports_name_the_file_that_defines_and_do_not_go_around(self):
        modules = {f"rooklands.{path.stem}": tree for path, tree in self.trees.items()}
        reached = {module: {source for name, source in imports_of(tree)} for module, tree in modules.items()}
        for module, tree in modules.items():
            for name, source in imports_of(tree):
                self.assertIn(name, names_defined_in(modules[source]), module)
        for _ in modules:
            reached = {
                module: sources.union(*(reached[each] for each in sources)) for module, sources in reached.items()
            }
        for module, sources in reached.items():
            self.assertNotIn(module, sources)

    def test_every_import_is_used(self):
        for path, tree in self.trees.items():
            read = {node.id for node in ast.walk(tree) if isinstance(node, ast.Name)}
            for name in names_imported_in(tree):
                self.assertIn(name, read, path)

    def test_methods_and_attributes_have_names_of_their_own(self):
        taken = {name for kind in (str, int, list, dict, set, bytes, tuple) for name in dir(kind)}
        methods, attributes = set(), set()
        for tree in self.trees.values():
            for node in ast.walk(tree):
                if isinstance(node, ast.ClassDef):
                    methods.update(each.name for each in node.body if isinstance(each, ast.FunctionDef))
                if isinstance(node, ast.Attribute) and isinstance(node.ctx, ast.Store):
                    attributes.add(node.attr)
        methods.discard("__init__")
        self.assertEqual(methods & attributes, set())
        self.assertEqual((methods | attributes) & taken, set())

    def test_python_gives_no_warning(self):
        for path, text in self.files.items():
            with warnings.catch_warnings():
                warnings.simplefilter("error")
                compile(text, str(path), "exec")


if __name__ == "__main__":
    unittest.main()
