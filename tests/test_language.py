"""Those rules of LANGUAGE.md that can be looked at line by line and name by name."""

import ast
import builtins
import pathlib
import re
import unittest

FOLDER = pathlib.Path(__file__).resolve().parent.parent / "hushrules"
FILES = sorted(FOLDER.rglob("*.py"))
ALLOWED = set(
    "len range enumerate zip min max sum abs sorted reversed int str bool bytes list tuple dict set frozenset"
    " isinstance ord repr any all divmod iter next Exception ValueError TypeError KeyError IndexError LookupError"
    " ZeroDivisionError ArithmeticError OverflowError RuntimeError NotImplementedError AttributeError StopIteration"
    " NotImplemented property staticmethod classmethod super".split()
)
BARRED_WORDS = re.compile(
    r"\b(type|typing|typing_extensions|enum|Enum|IntEnum|StrEnum|Flag|IntFlag|Generic|Protocol|ABC|ABCMeta|namedtuple"
    r"|NamedTuple|TypedDict|TYPE_CHECKING|abstractmethod)\b|dataclass|overload|contextmanager"
)
METHODS = set(
    "append clear copy count endswith extend find get index insert isalnum isalpha isdigit islower isspace isupper items"
    " join keys ljust lower lstrip partition pop remove replace reverse rfind rjust rpartition rsplit rstrip setdefault"
    " split splitlines startswith strip update upper values zfill bit_length add discard".split()
)
TAKES_ITEMS = ("any", "all", "min", "max", "sum", "sorted")


def nodes(path, *kinds):
    return [node for node in ast.walk(ast.parse(path.read_text())) if isinstance(node, kinds)]


class Language(unittest.TestCase):
    def test_files(self):
        self.assertIn(FOLDER / "__init__.py", FILES)
        for path in FILES:
            self.assertRegex(path.name, r"^[a-z_0-9]+\.py$")

    def test_lines_and_signs(self):
        for path in FILES:
            text = path.read_text()
            self.assertRegex(text, r"\A[ -~\n]*\Z", path.name)
            self.assertLess(len(text.split("\n")), 400, path.name)
            self.assertLessEqual(max(len(line) for line in text.split("\n")), 120, path.name)
            self.assertIsNone(BARRED_WORDS.search(text), path.name)

    def test_functions_are_small(self):
        for path in FILES:
            for node in nodes(path, ast.FunctionDef):
                self.assertLessEqual(node.end_lineno - node.lineno + 1, 40, (path.name, node.name))

    def test_imports_come_from_the_package(self):
        for path in FILES:
            self.assertEqual(nodes(path, ast.Import), [], path.name)
            for node in nodes(path, ast.ImportFrom):
                self.assertEqual(node.level, 0)
                self.assertRegex(node.module, r"^(hushrules\.|__future__$)")

    def test_imports_name_the_file_that_defines_it(self):
        for path in FILES:
            for node in nodes(path, ast.ImportFrom):
                home = FOLDER / (node.module.split(".")[1] + ".py")
                defined = [part.name for part in nodes(home, ast.FunctionDef, ast.ClassDef)]
                defined += [part.id for part in nodes(home, ast.Name) if isinstance(part.ctx, ast.Store)]
                for name in node.names:
                    self.assertIn(name.name, defined, path.name)
                    self.assertIsNone(name.asname)

    def test_no_two_files_import_from_each_other(self):
        homes = {path.stem: {node.module.split(".")[1] for node in nodes(path, ast.ImportFrom)} for path in FILES}
        while homes:
            free = [name for name, needed in homes.items() if not needed & set(homes)]
            self.assertTrue(free, homes)
            for name in free:
                del homes[name]

    def test_all_that_is_imported_is_used_and_means_nothing_else(self):
        for path in FILES:
            imported = [name.name for node in nodes(path, ast.ImportFrom) for name in node.names]
            self.assertEqual(len(imported), len(set(imported)), path.name)
            read = [node.id for node in nodes(path, ast.Name) if isinstance(node.ctx, ast.Load)]
            bound = [node.id for node in nodes(path, ast.Name) if isinstance(node.ctx, ast.Store)]
            bound += [node.arg for node in nodes(path, ast.arg)]
            bound += [node.name for node in nodes(path, ast.FunctionDef, ast.ClassDef)]
            for name in imported:
                self.assertIn(name, read, path.name)
                self.assertNotIn(name, bound, path.name)

    def test_no_variable_is_called_as_a_class_or_function_of_its_file(self):
        for path in FILES:
            rows = ast.parse(path.read_text()).body
            defined = [node.name for node in rows if isinstance(node, (ast.FunctionDef, ast.ClassDef))]
            for node in nodes(path, ast.Name, ast.arg):
                if isinstance(node, ast.arg):
                    self.assertNotIn(node.arg, defined, path.name)
                elif isinstance(node.ctx, ast.Store):
                    self.assertNotIn(node.id, defined, path.name)

    def test_methods_of_builtin_values(self):
        own = set()
        for path in FILES:
            own |= {node.name for node in nodes(path, ast.FunctionDef)}
        for path in FILES:
            for node in nodes(path, ast.Call):
                if isinstance(node.func, ast.Attribute):
                    self.assertIn(node.func.attr, METHODS | own, path.name)

    def test_names(self):
        for path in FILES:
            named = [node.id for node in nodes(path, ast.Name) if isinstance(node.ctx, ast.Store)]
            named += [node.name for node in nodes(path, ast.ClassDef)]
            named += [node.arg for node in nodes(path, ast.arg)]
            for name in named:
                self.assertFalse(hasattr(builtins, name) or name.startswith("_"), (path.name, name))
            for node in nodes(path, ast.Name):
                told = not hasattr(builtins, node.id) or node.id in ALLOWED
                self.assertTrue(told, (path.name, node.id))

    def test_statements_and_signs_that_are_not_used(self):
        for path in FILES:
            self.assertEqual(nodes(path, ast.Global, ast.AsyncFunctionDef, ast.Div), [], path.name)
            for node in nodes(path, ast.Constant):
                self.assertNotIsInstance(node.value, float)
                if isinstance(node.value, str):
                    self.assertNotIn(chr(37), node.value)

    def test_is_stands_beside_none_and_truths_only(self):
        for path in FILES:
            for node in nodes(path, ast.Compare):
                for sign, other in zip(node.ops, node.comparators):
                    if isinstance(sign, (ast.Is, ast.IsNot)):
                        self.assertTrue(isinstance(other, ast.Constant) and other.value in (None, True, False))

    def test_no_name_is_a_method_and_an_attribute(self):
        methods = {part.name for path in FILES for node in nodes(path, ast.ClassDef) for part in node.body
                   if isinstance(part, ast.FunctionDef)}
        parts = [node for path in FILES for node in nodes(path, ast.Attribute)]
        assigned = {node.attr for node in parts if isinstance(node.ctx, ast.Store)}
        self.assertEqual(methods & assigned, set())
        self.assertEqual(assigned & METHODS, set())
        for node in parts:
            self.assertIn(node.attr, methods | assigned | METHODS)

    def test_what_is_iterated_at_once_is_not_kept(self):
        lazy = ("zip", "range", "enumerate", "reversed", "items", "keys", "values")
        for path in FILES:
            for node in nodes(path, ast.Assign, ast.Return):
                if isinstance(node.value, ast.Call):
                    called = node.value.func
                    self.assertNotIn(called.attr if isinstance(called, ast.Attribute) else called.id, lazy, path.name)

    def test_finally_only_assigns_names(self):
        for path in FILES:
            for node in nodes(path, ast.Try):
                self.assertEqual(node.handlers, [], path.name)
                for row in node.finalbody:
                    self.assertIsInstance(row, ast.Assign)
                    self.assertIsInstance(row.value, ast.Name)

    def test_module_level(self):
        for path in FILES:
            bound = []
            for node in ast.parse(path.read_text()).body:
                plain = isinstance(node, (ast.ImportFrom, ast.FunctionDef, ast.ClassDef, ast.Assign))
                self.assertTrue(plain or isinstance(node.value, ast.Constant), path.name)
                if isinstance(node, ast.Assign):
                    bound += [target.id for target in node.targets]
                elif isinstance(node, (ast.FunctionDef, ast.ClassDef)):
                    bound.append(node.name)
            self.assertEqual(len(bound), len(set(bound)), path.name)

    def test_lists_stand_where_a_class_has_its_own_equality(self):
        for path in FILES:
            for node in nodes(path, ast.Call):
                if isinstance(node.func, ast.Name) and node.func.id in TAKES_ITEMS:
                    self.assertFalse([part for part in node.args if isinstance(part, ast.GeneratorExp)], path.name)


if __name__ == "__main__":
    unittest.main()
