"""The rules of the language that a look at the text of the files can decide."""

import ast
import pathlib
import re
import unittest

PACKAGE = pathlib.Path(__file__).resolve().parent.parent / "outleap"
BARRED = (
    "type typing typing_extensions enum Enum IntEnum StrEnum Flag IntFlag Generic Protocol ABC ABCMeta "
    "namedtuple NamedTuple TypedDict TYPE_CHECKING abstractmethod"
).split()
BARRED_PARTS = ["dataclass", "overload", "contextmanager"]


def defined_names(text):
    names = set()
    for item in ast.parse(text).body:
        if isinstance(item, (ast.FunctionDef, ast.ClassDef)):
            names.add(item.name)
        elif isinstance(item, ast.Assign):
            names.update(target.id for target in item.targets)
    return names


class LanguageTest(unittest.TestCase):
    def setUp(self):
        self.texts = {path.name: path.read_text() for path in sorted(PACKAGE.glob("*.py"))}

    def test_files(self):
        self.assertIn("__init__.py", self.texts)
        names = {path.name for path in PACKAGE.iterdir()} - {"__pycache__"}
        self.assertEqual(names, set(self.texts))

    def test_sizes_and_characters(self):
        for name, text in self.texts.items():
            with self.subTest(name):
                lines = text.split("\n")
                self.assertLessEqual(len(lines), 399)
                self.assertLessEqual(max(len(line) for line in lines), 120)
                self.assertIsNone(re.search("[^ -~\n]", text))
                for node in ast.walk(ast.parse(text)):
                    if isinstance(node, ast.FunctionDef):
                        self.assertLessEqual(node.end_lineno - node.lineno + 1, 40, node.name)

    def test_barred_words(self):
        for name, text in self.texts.items():
            with self.subTest(name):
                self.assertEqual(set(re.findall(r"\w+", text)) & set(BARRED), set())
                self.assertEqual([part for part in BARRED_PARTS if part in text], [])

    def test_imports(self):
        for name, text in self.texts.items():
            for node in ast.walk(ast.parse(text)):
                with self.subTest(name):
                    self.assertNotIsInstance(node, ast.Import)
                    if isinstance(node, ast.ImportFrom):
                        self.assertTrue(node.module.startswith("outleap."))
                        defined = defined_names(self.texts[node.module.partition(".")[2] + ".py"])
                        self.assertLessEqual({alias.name for alias in node.names}, defined)
