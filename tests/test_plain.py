"""Point 1, what no call can show: no clock, chance or files; and the language rules that are easy to count."""

import ast
import pathlib
import re
import unittest

PACKAGE = pathlib.Path(__file__).resolve().parent.parent / "shadowheaps"

PYTHONS_OWN = set(
    "len range enumerate zip min max sum abs sorted reversed int str bool list tuple dict set frozenset isinstance"
    " ord repr any all divmod Exception ValueError TypeError KeyError IndexError LookupError ZeroDivisionError"
    " ArithmeticError OverflowError RuntimeError NotImplementedError AttributeError StopIteration".split()
)

WORDS_LEFT_OUT = re.compile(
    r"\b(type|typing|typing_extensions|enum|Enum|IntEnum|StrEnum|Flag|IntFlag|Generic|Protocol|ABC|ABCMeta"
    r"|namedtuple|NamedTuple|TypedDict|TYPE_CHECKING|abstractmethod)\b|dataclass|overload|contextmanager"
)

METHODS = set(
    "append clear copy count endswith extend find get index insert isalnum isalpha isdigit islower isspace isupper"
    " items join keys ljust lower lstrip partition pop remove replace reverse rfind rjust rpartition rsplit rstrip"
    " setdefault split splitlines startswith strip update upper values zfill bit_length".split()
)

FORMS_LEFT_OUT = (
    ast.With, ast.Match, ast.Delete, ast.Global, ast.Nonlocal, ast.Assert, ast.Yield, ast.YieldFrom,
    ast.AsyncFunctionDef, ast.AsyncFor, ast.AsyncWith, ast.Await, ast.SetComp, ast.DictComp, ast.GeneratorExp,
    ast.NamedExpr, ast.Starred, ast.Div, ast.MatMult,
)


def bound_names(tree):
    names = set()
    for node in ast.walk(tree):
        if isinstance(node, (ast.FunctionDef, ast.ClassDef)):
            names.add(node.name)
        elif isinstance(node, ast.arg):
            names.add(node.arg)
        elif isinstance(node, ast.alias):
            names.add(node.asname or node.name)
        elif isinstance(node, ast.ExceptHandler) and node.name:
            names.add(node.name)
        elif isinstance(node, ast.Name) and isinstance(node.ctx, ast.Store):
            names.add(node.id)
    return names


class Plain(unittest.TestCase):

    def setUp(self):
        self.sources = {path: path.read_text("utf-8") for path in sorted(PACKAGE.glob("*.py"))}
        self.trees = {path: ast.parse(source) for path, source in self.sources.items()}

    def test_the_package_holds_plain_files_alone(self):
        self.assertIn(PACKAGE / "__init__.py", self.sources)
        for path in PACKAGE.iterdir():
            if path.name != "__pycache__":
                self.assertRegex(path.name, r"^([a-z][a-z0-9_]*|__init__|__main__)\.py$")

    def test_nothing_is_drawn_from_outside(self):
        for path, tree in self.trees.items():
            for node in ast.walk(tree):
                self.assertNotIsInstance(node, ast.Import, path.name)
                if isinstance(node, ast.ImportFrom):
                    self.assertEqual(node.level, 0, path.name)
                    self.assertTrue(node.module.startswith("shadowheaps."), (path.name, node.module))

    def test_of_pythons_own_names_only_those_allowed(self):
        for path, tree in self.trees.items():
            bound = bound_names(tree)
            self.assertFalse(bound & PYTHONS_OWN, path.name)
            used = {node.id for node in ast.walk(tree) if isinstance(node, ast.Name)}
            self.assertEqual(used - bound - PYTHONS_OWN, set(), path.name)

    def test_forms_and_methods(self):
        for path, tree in self.trees.items():
            for node in ast.walk(tree):
                where = (path.name, getattr(node, "lineno", None))
                self.assertNotIsInstance(node, FORMS_LEFT_OUT, where)
                if isinstance(node, ast.Constant):
                    self.assertNotIsInstance(node.value, (float, complex, bytes), where)
                elif isinstance(node, ast.Attribute):
                    self.assertIn(node.attr, METHODS, where)
                elif isinstance(node, (ast.For, ast.While)):
                    self.assertEqual(node.orelse, [], where)
                elif isinstance(node, ast.Assign):
                    self.assertEqual(len(node.targets), 1, where)
                    self.assertIsInstance(node.targets[0], (ast.Name, ast.Subscript), where)
                elif isinstance(node, ast.FunctionDef):
                    self.assertEqual(node.decorator_list, [], where)

    def test_plain_names(self):
        for path, tree in self.trees.items():
            for name in bound_names(tree):
                self.assertRegex(name, r"^[A-Za-z][A-Za-z0-9_]*$", path.name)

    def test_no_two_files_draw_from_one_another(self):
        drawn = {
            "shadowheaps." + path.stem: {node.module for node in ast.walk(tree) if isinstance(node, ast.ImportFrom)}
            for path, tree in self.trees.items()
        }
        while drawn:
            free = [name for name, others in drawn.items() if not others & set(drawn)]
            self.assertTrue(free, drawn)
            for name in free:
                drawn.pop(name)

    def test_signs_words_and_sizes(self):
        for path, source in self.sources.items():
            self.assertIsNone(re.search(r"[^ -~\n]", source), path.name)
            self.assertIsNone(WORDS_LEFT_OUT.search(source), path.name)
            rows = source.split("\n")
            self.assertLessEqual(len(rows), 400, path.name)
            self.assertLessEqual(max(len(row) for row in rows), 120, path.name)
            for node in ast.walk(self.trees[path]):
                if isinstance(node, ast.FunctionDef):
                    self.assertLessEqual(node.end_lineno - node.lineno + 1, 40, (path.name, node.name))


if __name__ == "__main__":
    unittest.main()
