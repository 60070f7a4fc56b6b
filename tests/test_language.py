"""A rough guard of the part of Python that the package keeps to: forms, names and sizes, not all of its rules."""

import ast
import builtins
import pathlib
import re
import unittest

PACKAGE = pathlib.Path(__file__).resolve().parent.parent / "aheadword"

NO_FORMS = (ast.Import, ast.With, ast.Delete, ast.Global, ast.Nonlocal, ast.Assert, ast.Match, ast.Yield, ast.YieldFrom,
            ast.Await, ast.AsyncFunctionDef, ast.Set, ast.SetComp, ast.DictComp, ast.GeneratorExp, ast.NamedExpr,
            ast.Starred, ast.Div, ast.AnnAssign)

PYTHONS = ("len range enumerate zip min max sum abs sorted reversed int str bool list tuple dict set frozenset isinstance "
           "ord repr any all divmod ValueError KeyError IndexError LookupError ZeroDivisionError").split()

PYTHONS_METHODS = ("append clear copy count endswith extend find get index insert isalnum isalpha isdigit islower isspace "
                   "isupper items join keys ljust lower lstrip partition pop remove replace reverse rfind rjust "
                   "rpartition rsplit rstrip setdefault split splitlines startswith strip update upper values zfill "
                   "bit_length").split()

NO_WORDS_THERE = (r"\b(type|typing|typing_extensions|[eE]num|IntEnum|StrEnum|Flag|IntFlag|Generic|Protocol|ABC|ABCMeta|"
                  r"namedtuple|NamedTuple|TypedDict|TYPE_CHECKING|abstractmethod)\b|dataclass|overload|contextmanager")


def names_bound(function):
    stored = [node.id for node in ast.walk(function) if isinstance(node, ast.Name) and isinstance(node.ctx, ast.Store)]
    return stored + [argument.arg for argument in function.args.args]


class Language(unittest.TestCase):
    def setUp(self):
        self.texts = {file.name: file.read_text() for file in sorted(PACKAGE.glob("*.py"))}
        self.nodes = [(name, node) for name, text in self.texts.items() for node in ast.walk(ast.parse(text))]

    def of_kind(self, kind):
        return [(name, node) for name, node in self.nodes if isinstance(node, kind)]

    def test_signs_words_and_lengths(self):
        for name, text in self.texts.items():
            self.assertIsNone(re.search(r"[^ -~\n]", text), name)
            self.assertIsNone(re.search(NO_WORDS_THERE, text), name)
            self.assertLessEqual(max(len(line) for line in text.split("\n")), 120, name)
            self.assertLessEqual(len(text.split("\n")), 400, name)

    def test_forms(self):
        for name, node in self.of_kind(NO_FORMS):
            self.fail(f"{name}:{getattr(node, 'lineno', '?')}: {type(node).__name__}")
        for name, node in self.of_kind(ast.Constant):
            self.assertNotIsInstance(node.value, (float, bytes), name)
            self.assertNotIn("%", node.value if isinstance(node.value, str) else "", name)
        for name, node in self.of_kind((ast.FunctionDef, ast.ClassDef)):
            self.assertEqual(node.decorator_list, [], name)
            if isinstance(node, ast.FunctionDef):
                self.assertLessEqual(node.end_lineno - node.lineno, 39, node.name)

    def test_names(self):
        imported = {(name, one.name) for name, node in self.of_kind(ast.ImportFrom) for one in node.names}
        used = {(name, node.id) for name, node in self.of_kind(ast.Name)}
        self.assertEqual(imported - used, set())
        classes = {(name, node.name) for name, node in self.of_kind(ast.ClassDef)}
        for name, function in self.of_kind(ast.FunctionDef):
            for bound in names_bound(function):
                self.assertNotIn((name, bound), imported | classes)
                self.assertFalse(hasattr(builtins, bound) or bound.startswith("_"), bound)
        for name, node in self.of_kind(ast.Name):
            self.assertTrue(node.id in PYTHONS or not hasattr(builtins, node.id), node.id)

    def test_methods_and_values(self):
        methods = {method.name for name, node in self.of_kind(ast.ClassDef) for method in node.body
                   if isinstance(method, ast.FunctionDef)}
        values = {node.attr for name, node in self.of_kind(ast.Attribute) if isinstance(node.ctx, ast.Store)}
        self.assertEqual(methods & values, set())
        for name, node in self.of_kind(ast.Attribute):
            self.assertIn(node.attr, methods | values | set(PYTHONS_METHODS), name)


if __name__ == "__main__":
    unittest.main()
