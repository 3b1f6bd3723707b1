"""Those rules of LANGUAGE.md that can be looked at line by line and name by name."""

import ast
import builtins
import pathlib
import re
import unittest

FOLDER = pathlib.Path(__file__).resolve().parent.parent / "hushrules"
FILES = sorted(FOLDER.rglob("*.py"))
ALLOWED = set(
    "len range enumerate zip min max sum abs sorted reversed int str bool bytes list tuple dict set frozenset"
    " isinstance ord repr any all divmod iter next Exception ValueError TypeError KeyError IndexError LookupError"
    " ZeroDivisionError ArithmeticError OverflowError RuntimeError NotImplementedError AttributeError StopIteration"
    " NotImplemented property staticmethod classmethod super".split()
)
BARRED_WORDS = re.compile(
    r"\b(type|typing|typing_extensions|enum|Enum|IntEnum|StrEnum|Flag|IntFlag|Generic|Protocol|ABC|ABCMeta|namedtuple"
    r"|NamedTuple|TypedDict|TYPE_CHECKING|abstractmethod)\b|dataclass|overload|contextmanager"
)
TAKES_ITEMS = ("any", "all", "min", "max", "sum", "sorted")


def nodes(path, *kinds):
    return [node for node in ast.walk(ast.parse(path.read_text())) if isinstance(node, kinds)]


class Language(unittest.TestCase):
    def test_files(self):
        self.assertIn(FOLDER / "__init__.py", FILES)
        for path in FILES:
            self.assertRegex(path.name, r"^[a-z_0-9]+\.py$")

    def test_lines_and_signs(self):
        for path in FILES:
            text = path.read_text()
            self.assertRegex(text, r"\A[ -~\n]*\Z", path.name)
            self.assertLess(len(text.split("\n")), 400, path.name)
            self.assertLessEqual(max(len(line) for line in text.split("\n")), 120, path.name)
            self.assertIsNone(BARRED_WORDS.search(text), path.name)

    def test_functions_are_small(self):
        for path in FILES:
            for node in nodes(path, ast.FunctionDef):
                self.assertLessEqual(node.end_lineno - node.lineno + 1, 40, (path.name, node.name))

    def test_imports_come_from_the_package(self):
        for path in FILES:
            self.assertEqual(nodes(path, ast.Import), [], path.name)
            for node in nodes(path, ast.ImportFrom):
                self.assertEqual(node.level, 0)
                self.assertRegex(node.module, r"^(hushrules\.|__future__$)")

    def test_names(self):
        for path in FILES:
            named = [node.id for node in nodes(path, ast.Name) if isinstance(node.ctx, ast.Store)]
            named += [node.name for node in nodes(path, ast.ClassDef)]
            named += [node.arg for node in nodes(path, ast.arg)]
            for name in named:
                self.assertFalse(hasattr(builtins, name) or name.startswith("_"), (path.name, name))
            for node in nodes(path, ast.Name):
                told = not hasattr(builtins, node.id) or node.id in ALLOWED
                self.assertTrue(told, (path.name, node.id))

    def test_statements_and_signs_that_are_not_used(self):
        for path in FILES:
            self.assertEqual(nodes(path, ast.Global, ast.AsyncFunctionDef, ast.Div), [], path.name)
            for node in nodes(path, ast.Constant):
                self.assertNotIsInstance(node.value, float)
                if isinstance(node.value, str):
                    self.assertNotIn(chr(37), node.value)

    def test_is_stands_beside_none_and_truths_only(self):
        for path in FILES:
            for node in nodes(path, ast.Compare):
                for sign, other in zip(node.ops, node.comparators):
                    if isinstance(sign, (ast.Is, ast.IsNot)):
                        self.assertTrue(isinstance(other, ast.Constant) and other.value in (None, True, False))

    def test_lists_stand_where_a_class_has_its_own_equality(self):
        for path in FILES:
            for node in nodes(path, ast.Call):
                if isinstance(node.func, ast.Name) and node.func.id in TAKES_ITEMS:
                    self.assertFalse([part for part in node.args if isinstance(part, ast.GeneratorExp)], path.name)


if __name__ == "__main__":
    unittest.main()
