"""The rules of the language that a look at the text of the files can decide."""

import ast
import builtins
import pathlib
import re
import unittest

PACKAGE = pathlib.Path(__file__).resolve().parent.parent / "outleap"
BARRED = (
    "type typing typing_extensions enum Enum IntEnum StrEnum Flag IntFlag Generic Protocol ABC ABCMeta "
    "namedtuple NamedTuple TypedDict TYPE_CHECKING abstractmethod"
).split()
BARRED_PARTS = ["dataclass", "overload", "contextmanager"]
ALLOWED_BUILTINS = set(
    "len range enumerate zip min max sum abs sorted reversed int str bool bytes list tuple dict set frozenset isinstance "
    "ord repr any all divmod iter next Exception ValueError TypeError KeyError IndexError LookupError "
    "ZeroDivisionError ArithmeticError OverflowError RuntimeError NotImplementedError AttributeError StopIteration "
    "NotImplemented staticmethod classmethod property super".split())
ALLOWED_METHODS = set(
    "append clear copy count endswith extend find get index insert isalnum isalpha isdigit islower isspace isupper "
    "items join keys ljust lower lstrip partition pop remove replace reverse rfind rjust rpartition rsplit rstrip "
    "setdefault split splitlines startswith strip update upper values zfill bit_length add discard sort removeprefix "
    "isdecimal".split())


def defined_names(text):
    names = set()
    for item in ast.parse(text).body:
        if isinstance(item, (ast.FunctionDef, ast.ClassDef)):
            names.add(item.name)
        elif isinstance(item, ast.Assign):
            names.update(target.id for target in item.targets)
    return names


def bound_names(tree):
    """The names of parameters and local variables."""
    names = set()
    for node in ast.walk(tree):
        if isinstance(node, ast.arg):
            names.add(node.arg)
        elif isinstance(node, ast.Name) and isinstance(node.ctx, ast.Store):
            names.add(node.id)
    return names


def imported_and_classes(tree):
    names = set()
    for node in ast.walk(tree):
        if isinstance(node, ast.ImportFrom):
            names.update(alias.asname or alias.name for alias in node.names)
        elif isinstance(node, ast.ClassDef):
            names.add(node.name)
    return names


class LanguageTest(unittest.TestCase):
    def setUp(self):
        self.texts = {path.name: path.read_text() for path in sorted(PACKAGE.glob("*.py"))}

    def test_files(self):
        self.assertIn("__init__.py", self.texts)
        names = {path.name for path in PACKAGE.iterdir()} - {"__pycache__"}
        self.assertEqual(names, set(self.texts))

    def test_sizes_and_characters(self):
        for name, text in self.texts.items():
            with self.subTest(name):
                lines = text.split("\n")
                self.assertLessEqual(len(lines), 399)
                self.assertLessEqual(max(len(line) for line in lines), 120)
                self.assertIsNone(re.search("[^ -~\n]", text))
                for node in ast.walk(ast.parse(text)):
                    if isinstance(node, ast.FunctionDef):
                        self.assertLessEqual(node.end_lineno - node.lineno + 1, 40, node.name)

    def test_barred_words(self):
        for name, text in self.texts.items():
            with self.subTest(name):
                self.assertEqual(set(re.findall(r"\w+", text)) & set(BARRED), set())
                self.assertEqual([part for part in BARRED_PARTS if part in text], [])

    def test_imports(self):
        for name, text in self.texts.items():
            for node in ast.walk(ast.parse(text)):
                with self.subTest(name):
                    self.assertNotIsInstance(node, ast.Import)
                    if isinstance(node, ast.ImportFrom):
                        self.assertTrue(node.module.startswith("outleap."))
                        defined = defined_names(self.texts[node.module.partition(".")[2] + ".py"])
                        self.assertLessEqual({alias.name for alias in node.names}, defined)

    def test_no_circle_of_imports(self):
        imports = {}
        for name, text in self.texts.items():
            nodes = [node for node in ast.walk(ast.parse(text)) if isinstance(node, ast.ImportFrom)]
            imports[name] = {node.module.partition(".")[2] + ".py" for node in nodes}
        while imports:
            free = [name for name in imports if not imports[name] & set(imports)]
            self.assertNotEqual(free, [], imports)
            for name in free:
                del imports[name]

    def test_names(self):
        for name, text in self.texts.items():
            with self.subTest(name):
                tree = ast.parse(text)
                bound = bound_names(tree) - {"__slots__"}
                self.assertEqual([word for word in bound if word.startswith("_")], [])
                self.assertEqual(bound & set(vars(builtins)), set())
                self.assertEqual(bound & imported_and_classes(tree), set())
                self.assertEqual(defined_names(text) & set(vars(builtins)), set())

    def test_builtins_and_methods(self):
        own = {node.name for text in self.texts.values() for node in ast.walk(ast.parse(text))
               if isinstance(node, ast.FunctionDef)}
        for name, text in self.texts.items():
            for node in ast.walk(ast.parse(text)):
                with self.subTest(name):
                    if isinstance(node, ast.Name) and node.id in vars(builtins):
                        self.assertIn(node.id, ALLOWED_BUILTINS)
                    if isinstance(node, ast.Call) and isinstance(node.func, ast.Attribute):
                        self.assertIn(node.func.attr, ALLOWED_METHODS | own)

    def test_expressions(self):
        barred = (ast.Div, ast.GeneratorExp, ast.Global, ast.AsyncFunctionDef, ast.Await, ast.Import, ast.YieldFrom)
        for name, text in self.texts.items():
            for node in ast.walk(ast.parse(text)):
                with self.subTest(name):
                    # A class has __eq__, so lists stand in any, all, min, max, sum and sorted.
                    self.assertNotIsInstance(node, barred)
                    if isinstance(node, ast.Constant):
                        self.assertNotIsInstance(node.value, (float, complex))
                    if isinstance(node, ast.Compare):
                        for sign, right in zip(node.ops, node.comparators):
                            if isinstance(sign, (ast.Is, ast.IsNot)):
                                self.assertIn(getattr(right, "value", ""), (None, True, False))
                    if isinstance(node, ast.BinOp) and isinstance(node.op, ast.Pow):
                        self.assertIn(getattr(node.right, "value", None), range(65))

    def test_no_name_is_a_method_and_an_attribute(self):
        methods, attributes = set(), set()
        for text in self.texts.values():
            for node in ast.walk(ast.parse(text)):
                if isinstance(node, ast.ClassDef):
                    methods.update(item.name for item in node.body if isinstance(item, ast.FunctionDef))
                if isinstance(node, ast.Attribute) and isinstance(node.ctx, ast.Store):
                    attributes.add(node.attr)
        self.assertEqual(methods & attributes, set())
