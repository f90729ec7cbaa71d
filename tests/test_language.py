"""The rows of LANGUAGE.md that can be seen by a plain look at the package's files."""

import ast
import builtins
import re
import unittest
from pathlib import Path

PACKAGE = Path(__file__).resolve().parent.parent / "lentwork"

OWN_NAMES = set(
    "len range enumerate zip min max sum abs sorted reversed int str bool list tuple dict set frozenset isinstance ord "
    "repr any all divmod Exception ValueError TypeError KeyError IndexError LookupError ZeroDivisionError "
    "ArithmeticError OverflowError RuntimeError NotImplementedError AttributeError StopIteration".split())

OUT_OF_BOUNDS = (
    ast.With, ast.Match, ast.Delete, ast.Global, ast.Nonlocal, ast.Assert, ast.Yield, ast.YieldFrom, ast.Await,
    ast.AsyncFunctionDef, ast.AsyncFor, ast.AsyncWith, ast.NamedExpr, ast.Starred, ast.GeneratorExp, ast.SetComp,
    ast.DictComp, ast.Div, ast.MatMult, ast.Import,
)

WORDS_OUT = re.compile(
    r"\b(type|typing|typing_extensions|enum|Enum|IntEnum|StrEnum|Flag|IntFlag|Generic|Protocol|ABC|ABCMeta|namedtuple"
    r"|NamedTuple|TypedDict|TYPE_CHECKING|abstractmethod)\b|dataclass|overload|contextmanager")


def files():
    return sorted(path for path in PACKAGE.rglob("*") if path.is_file() and "__pycache__" not in path.parts)


def trees():
    return [(path.name, ast.parse(path.read_text(encoding="utf-8"))) for path in files()]


def nodes(kind):
    return [(name, node) for name, tree in trees() for node in ast.walk(tree) if isinstance(node, kind)]


class Language(unittest.TestCase):
    def test_files(self):
        self.assertIn(PACKAGE / "__init__.py", files())
        for path in files():
            self.assertRegex(path.name, r"^[a-z0-9_]+\.py$")

    def test_signs_and_sizes(self):
        for path in files():
            text = path.read_text(encoding="utf-8")
            self.assertRegex(text, r"\A[ -~\n]*\Z", path.name)
            self.assertIsNone(WORDS_OUT.search(text), path.name)
            self.assertLessEqual(len(text.splitlines()), 400, path.name)
            for line in text.splitlines():
                self.assertLessEqual(len(line), 120, path.name)

    def test_functions(self):
        for name, node in nodes(ast.FunctionDef):
            self.assertLessEqual(node.end_lineno - node.lineno + 1, 40, (name, node.name))
            self.assertEqual(node.decorator_list, [], (name, node.name))
            self.assertIsNone(node.args.vararg or node.args.kwarg, (name, node.name))
            self.assertEqual(node.args.kwonlyargs, [], (name, node.name))

    def test_imports(self):
        for name, node in nodes(ast.ImportFrom):
            self.assertEqual(node.level, 0, name)
            self.assertRegex(node.module, r"^(lentwork\.[a-z0-9_]+|__future__)$", name)
            self.assertNotIn("*", [alias.name for alias in node.names], name)

    def test_no_step_outside(self):
        for name, node in nodes(OUT_OF_BOUNDS):
            if name != "__main__.py" or not isinstance(node, ast.Import):
                self.fail(f"{name}: {ast.dump(node)}")
        for name, node in nodes((ast.For, ast.While)):
            self.assertEqual(node.orelse, [], name)
        for name, node in nodes(ast.Try):
            self.assertEqual(node.finalbody, [], name)
        for name, node in nodes(ast.Constant):
            self.assertNotIsInstance(node.value, (float, complex, bytes), name)

    def test_pythons_own_names(self):
        for name, node in nodes(ast.Name):
            if hasattr(builtins, node.id) and name != "__main__.py":
                self.assertIn(node.id, OWN_NAMES, name)

    def test_handlers_name_what_they_take(self):
        for name, node in nodes(ast.ExceptHandler):
            self.assertIsNotNone(node.type, name)
            taken = [part.id for part in ast.walk(node.type) if isinstance(part, ast.Name)]
            self.assertFalse({"Exception", "TypeError", "BaseException"} & set(taken), name)


if __name__ == "__main__":
    unittest.main()
