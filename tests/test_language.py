"""The rows of LANGUAGE.md that can be seen by a plain look at the package's files."""

import ast
import builtins
import re
import unittest
from pathlib import Path

PACKAGE = Path(__file__).resolve().parent.parent / "lentwork"

OWN_NAMES = set(
    "len range enumerate zip min max sum abs sorted reversed int str bool list tuple dict set frozenset isinstance ord "
    "repr any all divmod Exception ValueError TypeError KeyError IndexError LookupError ZeroDivisionError "
    "ArithmeticError OverflowError RuntimeError NotImplementedError AttributeError StopIteration".split())

OUT_OF_BOUNDS = (
    ast.With, ast.Match, ast.Delete, ast.Global, ast.Nonlocal, ast.Assert, ast.Yield, ast.YieldFrom, ast.Await,
    ast.AsyncFunctionDef, ast.AsyncFor, ast.AsyncWith, ast.NamedExpr, ast.Starred, ast.GeneratorExp, ast.SetComp,
    ast.DictComp, ast.Div, ast.MatMult, ast.Import,
)

WORDS_OUT = re.compile(
    r"\b(type|typing|typing_extensions|enum|Enum|IntEnum|StrEnum|Flag|IntFlag|Generic|Protocol|ABC|ABCMeta|namedtuple"
    r"|NamedTuple|TypedDict|TYPE_CHECKING|abstractmethod)\b|dataclass|overload|contextmanager")

METHODS_OF_VALUES = set(
    "append clear copy count endswith extend find get index insert isalnum isalpha isdigit islower isspace isupper "
    "items join keys ljust lower lstrip partition pop remove replace reverse rfind rjust rpartition rsplit rstrip "
    "setdefault split splitlines startswith strip update upper values zfill bit_length".split())

KEYWORDS = {"sorted": {"key", "reverse"}, "min": {"key", "default"}, "max": {"key", "default"}, "sum": {"start"},
            "enumerate": {"start"}, "zip": {"strict"}}


def files():
    return sorted(path for path in PACKAGE.rglob("*") if path.is_file() and "__pycache__" not in path.parts)


def trees():
    return [(path.name, ast.parse(path.read_text(encoding="utf-8"))) for path in files()]


def nodes(kind):
    return [(name, node) for name, tree in trees() for node in ast.walk(tree) if isinstance(node, kind)]


def own_methods():
    return {node.name for name, parent in nodes(ast.ClassDef) for node in parent.body
            if isinstance(node, ast.FunctionDef)}


def own_values():
    return {node.attr for name, node in nodes(ast.Attribute) if isinstance(node.ctx, ast.Store)}


def names_given():
    """Every name that a file binds, with the file."""
    given = [(name, node.name) for name, node in nodes((ast.FunctionDef, ast.ClassDef))]
    given += [(name, node.arg) for name, node in nodes(ast.arg)]
    given += [(name, node.id) for name, node in nodes(ast.Name) if isinstance(node.ctx, ast.Store)]
    return given + [(name, node.attr) for name, node in nodes(ast.Attribute) if isinstance(node.ctx, ast.Store)]


class Language(unittest.TestCase):
    def test_files(self):
        self.assertIn(PACKAGE / "__init__.py", files())
        for path in files():
            self.assertRegex(path.name, r"^[a-z0-9_]+\.py$")

    def test_signs_and_sizes(self):
        for path in files():
            text = path.read_text(encoding="utf-8")
            self.assertRegex(text, r"\A[ -~\n]*\Z", path.name)
            self.assertIsNone(WORDS_OUT.search(text), path.name)
            self.assertLessEqual(len(text.splitlines()), 400, path.name)
            for line in text.splitlines():
                self.assertLessEqual(len(line), 120, path.name)

    def test_functions(self):
        for name, node in nodes(ast.FunctionDef):
            self.assertLessEqual(node.end_lineno - node.lineno + 1, 40, (name, node.name))
            self.assertEqual(node.decorator_list, [], (name, node.name))
            self.assertIsNone(node.args.vararg or node.args.kwarg, (name, node.name))
            self.assertEqual(node.args.kwonlyargs, [], (name, node.name))

    def test_imports(self):
        for name, node in nodes(ast.ImportFrom):
            self.assertEqual(node.level, 0, name)
            self.assertRegex(node.module, r"^(lentwork\.[a-z0-9_]+|__future__)$", name)
            self.assertNotIn("*", [alias.name for alias in node.names], name)

    def test_no_step_outside(self):
        for name, node in nodes(OUT_OF_BOUNDS):
            if name != "__main__.py" or not isinstance(node, ast.Import):
                self.fail(f"{name}: {ast.dump(node)}")
        for name, node in nodes((ast.For, ast.While)):
            self.assertEqual(node.orelse, [], name)
        for name, node in nodes(ast.Try):
            self.assertEqual(node.finalbody, [], name)
        for name, node in nodes(ast.Constant):
            self.assertNotIsInstance(node.value, (float, complex, bytes), name)

    def test_pythons_own_names(self):
        for name, node in nodes(ast.Name):
            if hasattr(builtins, node.id) and name != "__main__.py":
                self.assertIn(node.id, OWN_NAMES, name)

    def test_handlers_name_what_they_take(self):
        for name, node in nodes(ast.ExceptHandler):
            self.assertIsNotNone(node.type, name)
            taken = [part.id for part in ast.walk(node.type) if isinstance(part, ast.Name)]
            self.assertFalse({"Exception", "TypeError", "BaseException"} & set(taken), name)

    def test_errors_are_made_on_the_spot(self):
        for name, node in nodes(ast.Raise):
            self.assertIsInstance(node.exc, ast.Call, name)

    def test_plain_names(self):
        for name, given in names_given():
            if given != "__init__":
                self.assertRegex(given, r"^[A-Za-z][A-Za-z0-9_]*$", name)

    def test_no_name_of_pythons_own_is_given_anew(self):
        for name, node in nodes((ast.arg, ast.Name)):
            if isinstance(node, ast.arg) or isinstance(node.ctx, ast.Store):
                self.assertFalse(hasattr(builtins, node.arg if isinstance(node, ast.arg) else node.id), name)

    def test_no_local_is_called_like_an_import(self):
        imported = {(name, alias.name) for name, node in nodes(ast.ImportFrom) for alias in node.names}
        classes = {(name, node.name) for name, node in nodes(ast.ClassDef)}
        local = {(name, node.arg) for name, node in nodes(ast.arg)}
        local |= {(name, node.id) for name, node in nodes(ast.Name) if isinstance(node.ctx, ast.Store)}
        self.assertEqual((imported | classes) & local, set())

    def test_imports_come_from_the_file_that_defines_the_name(self):
        defined = {(name, node.name) for name, tree in trees() for node in tree.body
                   if isinstance(node, (ast.FunctionDef, ast.ClassDef))}
        for name, node in nodes(ast.ImportFrom):
            for alias in node.names:
                self.assertIn((node.module.partition(".")[2] + ".py", alias.name), defined, name)
                self.assertIsNone(alias.asname, name)

    def test_one_target_in_an_assignment(self):
        for name, node in nodes(ast.Assign):
            self.assertEqual(len(node.targets), 1, name)
            self.assertIsInstance(node.targets[0], (ast.Name, ast.Attribute, ast.Subscript), name)

    def test_no_name_is_a_method_and_a_value(self):
        self.assertEqual(own_values() & own_methods(), set())

    def test_methods_and_values_have_free_names(self):
        taken = {name for kind in (str, int, list, tuple, dict, set, bytes, ValueError) for name in dir(kind)}
        self.assertEqual(own_values() & taken, set())
        self.assertLessEqual(own_methods() & taken, METHODS_OF_VALUES | {"add", "discard", "__init__"})

    def test_methods_that_are_called(self):
        for name, node in nodes(ast.Call):
            if isinstance(node.func, ast.Attribute):
                self.assertIn(node.func.attr, METHODS_OF_VALUES | own_methods(), name)
                self.assertEqual(node.keywords, [], name)
            elif node.keywords:
                self.assertLessEqual({word.arg for word in node.keywords}, KEYWORDS.get(node.func.id, set()), name)

    def test_is_stands_beside_none_true_and_false(self):
        for name, node in nodes(ast.Compare):
            for sign, other in zip(node.ops, node.comparators):
                if isinstance(sign, (ast.Is, ast.IsNot)):
                    self.assertIn(ast.unparse(other), ("None", "True", "False"), name)

    def test_comprehensions_have_one_for_and_one_if_at_most(self):
        for name, node in nodes(ast.ListComp):
            self.assertEqual(len(node.generators), 1, name)
            self.assertLessEqual(len(node.generators[0].ifs), 1, name)


if __name__ == "__main__":
    unittest.main()
