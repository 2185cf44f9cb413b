"""A few of the rules of the language that a program can see at once."""

import ast
import builtins
import os
import re
import unittest

FOLDER = os.path.join(os.path.dirname(os.path.dirname(os.path.abspath(__file__))), "fewstand")
BARRED = re.compile(r"\b(type|typing|typing_extensions|enum|Enum|IntEnum|StrEnum|Flag|IntFlag|Generic|Protocol"
                    r"|ABC|ABCMeta|namedtuple|NamedTuple|TypedDict|TYPE_CHECKING|abstractmethod)\b"
                    r"|dataclass|overload|contextmanager")


def files():
    told = []
    for name in sorted(os.listdir(FOLDER)):
        if name != "__pycache__":
            with open(os.path.join(FOLDER, name), encoding="utf-8") as held:
                told.append((name, held.read()))
    return told


class Rules(unittest.TestCase):
    def test_the_folder_has_python_files_only(self):
        names = [name for name, text in files()]
        self.assertIn("__init__.py", names)
        for name in names:
            self.assertRegex(name, r"^[a-z0-9_]+\.py$")

    def test_characters_lines_and_words(self):
        for name, text in files():
            with self.subTest(name):
                self.assertRegex(text, r"^[\n -~]*$")
                self.assertLessEqual(len(text.splitlines()), 400)
                self.assertLessEqual(max(len(row) for row in text.splitlines()), 120)
                self.assertIsNone(BARRED.search(text))

    def test_functions_are_short(self):
        for name, text in files():
            for node in ast.walk(ast.parse(text)):
                if isinstance(node, ast.FunctionDef):
                    self.assertLessEqual(node.end_lineno - node.lineno + 1, 40, (name, node.name))

    def test_only_the_package_is_imported_and_by_full_names(self):
        for name, text in files():
            for node in ast.walk(ast.parse(text)):
                self.assertNotIsInstance(node, ast.Import, name)
                if isinstance(node, ast.ImportFrom):
                    self.assertEqual(node.level, 0, name)
                    self.assertTrue(node.module.startswith("fewstand."), name)

    def test_names_of_methods_and_attributes(self):
        methods, attributes = set(), set()
        for name, text in files():
            for node in ast.walk(ast.parse(text)):
                if isinstance(node, ast.ClassDef):
                    methods |= {part.name for part in node.body if isinstance(part, ast.FunctionDef)}
                if isinstance(node, ast.Attribute) and isinstance(node.ctx, ast.Store):
                    attributes.add(node.attr)
        self.assertIn("few", methods)
        self.assertIn("at", attributes)
        self.assertEqual(methods & attributes, set())

    def test_names_are_bound_once_and_not_hidden(self):
        for name, text in files():
            tree = ast.parse(text)
            imported = [alias.name for node in tree.body if isinstance(node, ast.ImportFrom) for alias in node.names]
            defined = [node.name for node in tree.body if isinstance(node, (ast.FunctionDef, ast.ClassDef))]
            self.assertEqual(len(set(imported + defined)), len(imported + defined), name)
            used = {node.id for node in ast.walk(tree) if isinstance(node, ast.Name) and isinstance(node.ctx, ast.Load)}
            self.assertLessEqual(set(imported), used, name)
            taken = {node.id for node in ast.walk(tree) if isinstance(node, ast.Name) and isinstance(node.ctx, ast.Store)}
            taken |= {node.arg for node in ast.walk(tree) if isinstance(node, ast.arg)}
            self.assertEqual(taken & (set(imported) | set(dir(builtins))), set(), name)

    def test_no_barred_syntax(self):
        barred = (ast.Div, ast.Global, ast.AsyncFunctionDef, ast.GeneratorExp)
        for name, text in files():
            for node in ast.walk(ast.parse(text)):
                self.assertNotIsInstance(node, barred, name)
                if isinstance(node, ast.Constant):
                    self.assertNotIsInstance(node.value, (float, complex), name)
                    if isinstance(node.value, str):
                        self.assertNotIn("%", node.value, name)


if __name__ == "__main__":
    unittest.main()
