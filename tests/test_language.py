"""Those rules of LANGUAGE.md that can be seen from the package's files without much ado."""

import ast
import builtins
import re
import unittest
from pathlib import Path

PACKAGE = Path(__file__).resolve().parent.parent / "levelskins"
USED_BUILTINS = set(
    "len range enumerate zip min max sum abs sorted reversed int str bool bytes list tuple dict set frozenset "
    "isinstance ord repr any all divmod Exception ValueError TypeError KeyError IndexError LookupError "
    "ZeroDivisionError ArithmeticError OverflowError RuntimeError NotImplementedError AttributeError StopIteration "
    "NotImplemented iter next super property staticmethod classmethod".split()
)
METHODS = set(
    "append clear copy count endswith extend find get index insert isalnum isalpha isdigit islower isspace isupper "
    "items join keys ljust lower lstrip partition pop remove replace reverse rfind rjust rpartition rsplit rstrip "
    "setdefault split splitlines startswith strip update upper values zfill bit_length add discard".split()
)
DUNDERS = {"__init__", "__eq__", "__repr__", "__str__", "__len__"}
BARRED_NODES = (
    ast.Global, ast.AsyncFunctionDef, ast.AsyncFor, ast.AsyncWith, ast.Await, ast.Div, ast.MatMult, ast.Import,
    ast.Yield, ast.YieldFrom,
)
BARRED_WORDS = re.compile(
    r"\b(type|typing|typing_extensions|enum|Enum|IntEnum|StrEnum|Flag|IntFlag|Generic|Protocol|ABC|ABCMeta|"
    r"namedtuple|NamedTuple|TypedDict|TYPE_CHECKING|abstractmethod)\b|dataclass|overload|contextmanager"
)
BARRED_NAMES = set(
    "register mro elements open input law version_info with_traceback add_note format format_map attrgetter "
    "breakpoint compile dir eval exec exit gc getattr globals hasattr help id os quit setattr sys vars".split()
)


def files():
    return sorted(PACKAGE.glob("*.py"))


def trees():
    return [(path, ast.parse(path.read_text(encoding="utf-8"))) for path in files()]


def nodes(kind):
    return [(path, node) for path, tree in trees() for node in ast.walk(tree) if isinstance(node, kind)]


def defined(tree):
    """The names that a file's own rows bind at module level, imports left out."""
    names = []
    for node in tree.body:
        if isinstance(node, (ast.FunctionDef, ast.ClassDef)):
            names.append(node.name)
        elif isinstance(node, ast.Assign):
            names += [target.id for target in node.targets]
    return names


def imported(tree):
    return [(node.module, alias) for node in tree.body if isinstance(node, ast.ImportFrom) for alias in node.names]


def bound_names(tree):
    """All names that functions bind: parameters, local variables, loop variables."""
    names = [node.arg for node in ast.walk(tree) if isinstance(node, ast.arg)]
    return names + [
        node.id for node in ast.walk(tree) if isinstance(node, ast.Name) and isinstance(node.ctx, ast.Store)
    ]


class Files(unittest.TestCase):
    def test_only_plain_files(self):
        told = [path for path in PACKAGE.iterdir() if path.name != "__pycache__"]
        self.assertEqual(sorted(told), files())
        for path in told:
            self.assertRegex(path.name, r"\A(__init__|[a-z][a-z0-9_]*)\.py\Z")

    def test_sizes_and_characters(self):
        for path in files():
            text = path.read_text(encoding="utf-8")
            self.assertRegex(text, r"\A[ -~\n]*\Z", path)
            self.assertLess(len(text.splitlines()), 400, path)
            for at, line in enumerate(text.splitlines(), 1):
                self.assertLessEqual(len(line), 120, (path, at))

    def test_barred_words(self):
        for path in files():
            self.assertIsNone(BARRED_WORDS.search(path.read_text(encoding="utf-8")), path)


class Modules(unittest.TestCase):
    def test_rows_at_module_level(self):
        for path, tree in trees():
            self.assertIsNotNone(ast.get_docstring(tree), path)
            for node in tree.body[1:]:
                kinds = (ast.ImportFrom, ast.FunctionDef, ast.ClassDef, ast.Assign)
                self.assertIsInstance(node, kinds, (path, node.lineno))

    def test_each_name_is_bound_once(self):
        for path, tree in trees():
            names = defined(tree) + [alias.name for _, alias in imported(tree)]
            self.assertEqual(len(names), len(set(names)), path)

    def test_imports_name_the_file_that_defines(self):
        owners = {f"levelskins.{path.stem}": defined(tree) for path, tree in trees()}
        for path, tree in trees():
            for module, alias in imported(tree):
                self.assertIn(alias.name, owners[module], path)
                self.assertIsNone(alias.asname, path)
        at_the_top = sum(len(imported(tree)) for _, tree in trees())
        self.assertEqual(at_the_top, sum(len(node.names) for _, node in nodes(ast.ImportFrom)))

    def test_imports_make_no_ring(self):
        wants = {path.stem: {module.split(".")[1] for module, _ in imported(tree)} for path, tree in trees()}
        while wants:
            free = [name for name, others in wants.items() if not others & set(wants)]
            self.assertTrue(free, wants)
            for name in free:
                del wants[name]

    def test_one_helper_of_each_name(self):
        names = [name for _, tree in trees() for name in defined(tree)]
        self.assertEqual(len(names), len(set(names)))


class Rows(unittest.TestCase):
    def test_barred_rows(self):
        for path, node in nodes(BARRED_NODES):
            self.fail((path, node))

    def test_functions(self):
        for path, node in nodes(ast.FunctionDef):
            self.assertLessEqual(node.end_lineno - node.lineno + 1, 40, (path, node.name))
            self.assertIsNotNone(ast.get_docstring(node) or node.name == "__init__" or None, (path, node.name))
            if node.name.startswith("_"):
                self.assertIn(node.name, DUNDERS, path)

    def test_names(self):
        for path, tree in trees():
            own = {node.name for node in tree.body if isinstance(node, ast.ClassDef)}
            own |= {alias.name for _, alias in imported(tree)}
            for name in bound_names(tree):
                self.assertFalse(name.startswith("_"), (path, name))
                self.assertFalse(hasattr(builtins, name), (path, name))
                self.assertNotIn(name, own | BARRED_NAMES, path)
            for name in defined(tree):
                self.assertFalse(name.startswith("_") or hasattr(builtins, name), (path, name))
                self.assertNotIn(name, BARRED_NAMES, path)

    def test_builtins(self):
        for path, node in nodes(ast.Name):
            if hasattr(builtins, node.id):
                self.assertIn(node.id, USED_BUILTINS, (path, node.lineno))

    def test_methods(self):
        own = {node.name for _, node in nodes(ast.FunctionDef)}
        for path, node in nodes(ast.Call):
            if isinstance(node.func, ast.Attribute):
                self.assertIn(node.func.attr, METHODS | own, (path, node.lineno))

    def test_no_name_is_a_method_and_an_attribute(self):
        methods = {
            one.name for _, node in nodes(ast.ClassDef) for one in node.body if isinstance(one, ast.FunctionDef)
        }
        stored = {node.attr for _, node in nodes(ast.Attribute) if isinstance(node.ctx, ast.Store)}
        self.assertEqual(methods & stored, set())
        read = {node.attr for _, node in nodes(ast.Attribute) if isinstance(node.ctx, ast.Load)}
        self.assertEqual(read - methods - stored - METHODS, set())

    def test_no_error_is_caught(self):
        # With classes that have a length and an equality of their own, little may stand under a handler.
        self.assertEqual(nodes(ast.ExceptHandler), [])

    def test_last_rows_of_a_try(self):
        simple = (ast.Name, ast.Attribute, ast.Constant, ast.List, ast.Tuple, ast.BinOp, ast.Add, ast.Load)
        for path, node in nodes(ast.Try):
            for row in node.finalbody:
                self.assertIsInstance(row, ast.Assign, (path, row.lineno))
                for part in ast.walk(row.value):
                    self.assertIsInstance(part, simple, (path, row.lineno))

    def test_literals(self):
        for path, node in nodes(ast.Constant):
            self.assertNotIsInstance(node.value, (float, complex, bytes), (path, node.lineno))
            if isinstance(node.value, str):
                self.assertNotIn("%", node.value, (path, node.lineno))

    def test_lists_where_a_generator_could_stand(self):
        # A class with its own equality bars generator expressions from any, all, sum and their kin.
        self.assertEqual(nodes(ast.GeneratorExp), [])

    def test_is_with_none_and_truths_only(self):
        for path, node in nodes(ast.Compare):
            for sign, other in zip(node.ops, node.comparators):
                if isinstance(sign, (ast.Is, ast.IsNot)):
                    self.assertIn(ast.dump(other), [ast.dump(ast.Constant(told)) for told in (None, True, False)])


if __name__ == "__main__":
    unittest.main()
