"""The form of the package's own files, as far as a short look can see it."""

import ast
import pathlib
import re
import unittest

PACKAGE = pathlib.Path(__file__).resolve().parent.parent / "ownturn"

OUTSIDE = (
    ast.With, ast.Global, ast.Nonlocal, ast.Yield, ast.YieldFrom, ast.Await, ast.GeneratorExp, ast.NamedExpr,
    ast.AsyncFunctionDef, ast.AsyncFor, ast.AsyncWith, ast.Match, ast.Div, ast.Import,
)
OWN_NAMES = re.compile(r"__init__|__eq__|__repr__|__str__|__len__|[A-Za-z][A-Za-z0-9_]*")
NO_WORDS = re.compile(
    r"\b(type|typing|typing_extensions|enum|Enum|IntEnum|StrEnum|Flag|IntFlag|Generic|Protocol|ABC|ABCMeta|namedtuple"
    r"|NamedTuple|TypedDict|TYPE_CHECKING|abstractmethod)\b|dataclass|overload|contextmanager"
)
PYTHONS = set(
    "len range enumerate zip min max sum abs sorted reversed int str bool bytes list tuple dict set frozenset isinstance"
    " ord repr any all divmod ValueError KeyError IndexError LookupError ZeroDivisionError".split()
)


def files():
    return sorted(path for path in PACKAGE.rglob("*") if path.is_file() and "__pycache__" not in path.parts)


def walked():
    for path in files():
        for node in ast.walk(ast.parse(path.read_text("ascii"))):
            yield path.name, node


class Form(unittest.TestCase):

    def test_only_python_files(self):
        self.assertIn("__init__.py", [path.name for path in files()])
        for path in files():
            self.assertRegex(path.name, r"\A[a-z0-9_]+\.py\Z")

    def test_signs_and_sizes(self):
        for path in files():
            text = path.read_text("ascii")
            self.assertRegex(text, r"\A[ -~\n]*\Z", path.name)
            self.assertLessEqual(len(text.splitlines()), 400, path.name)
            self.assertLessEqual(max(len(row) for row in text.splitlines()), 120, path.name)
            self.assertIsNone(NO_WORDS.search(text), path.name)

    def test_defs(self):
        for name, node in walked():
            if isinstance(node, ast.FunctionDef):
                told = (name, node.name)
                self.assertLessEqual(node.end_lineno - node.lineno + 1, 40, told)
                self.assertEqual(node.decorator_list, [], told)
                self.assertIsNone(node.args.vararg or node.args.kwarg, told)
                self.assertTrue(OWN_NAMES.fullmatch(node.name), told)

    def test_statements_and_names(self):
        for name, node in walked():
            self.assertNotIsInstance(node, OUTSIDE, (name, getattr(node, "lineno", 0)))
            if isinstance(node, ast.Constant):
                self.assertNotIsInstance(node.value, (float, complex), (name, node.lineno))
            if isinstance(node, ast.ImportFrom):
                self.assertTrue(node.level == 0 and node.module.startswith("ownturn."), (name, node.module))
            if isinstance(node, (ast.Name, ast.arg)):
                called = node.id if isinstance(node, ast.Name) else node.arg
                self.assertTrue(OWN_NAMES.fullmatch(called), (name, called))

    def test_no_other_names_of_pythons_own(self):
        others = set(dir(__builtins__) if not isinstance(__builtins__, dict) else __builtins__) - PYTHONS
        for name, node in walked():
            if isinstance(node, ast.Name):
                self.assertNotIn(node.id, others, (name, node.lineno))
            if isinstance(node, ast.arg):
                self.assertNotIn(node.arg, others | PYTHONS, (name, node.lineno))
            if isinstance(node, ast.Name) and isinstance(node.ctx, ast.Store):
                self.assertNotIn(node.id, PYTHONS, (name, node.lineno))

    def test_no_local_is_called_like_an_import_or_a_class(self):
        for path in files():
            tree = ast.parse(path.read_text("ascii"))
            drawn = {name.name for node in ast.walk(tree) if isinstance(node, ast.ImportFrom) for name in node.names}
            drawn |= {node.name for node in ast.walk(tree) if isinstance(node, ast.ClassDef)}
            given = {node.arg for node in ast.walk(tree) if isinstance(node, ast.arg)}
            given |= {node.id for node in ast.walk(tree) if isinstance(node, ast.Name) and isinstance(node.ctx, ast.Store)}
            given |= {node.name for node in ast.walk(tree) if isinstance(node, (ast.FunctionDef, ast.ExceptHandler))}
            self.assertEqual(drawn & given, set(), path.name)

    def test_no_name_is_a_method_and_a_value(self):
        methods, values = set(), set()
        for name, node in walked():
            if isinstance(node, ast.ClassDef):
                methods |= {part.name for part in node.body if isinstance(part, ast.FunctionDef)}
            if isinstance(node, ast.Attribute) and isinstance(node.ctx, ast.Store):
                values.add(node.attr)
        self.assertEqual(methods & values, set())

    def test_no_file_draws_from_itself_in_whatever_many_steps(self):
        draws = {}
        for path in files():
            tree = ast.parse(path.read_text("ascii"))
            draws[path.stem] = {
                node.module.split(".")[-1] for node in ast.walk(tree) if isinstance(node, ast.ImportFrom)}
        for name in draws:
            reached, further = set(), draws[name]
            while further:
                reached |= further
                further = {part for each in further for part in draws[each]} - reached
            self.assertNotIn(name, reached)

    def test_is_stands_beside_none_true_false(self):
        for name, node in walked():
            if isinstance(node, ast.Compare):
                for sign, right in zip(node.ops, node.comparators):
                    if isinstance(sign, (ast.Is, ast.IsNot)):
                        self.assertTrue(isinstance(right, ast.Constant) and right.value in (None, True, False), name)


if __name__ == "__main__":
    unittest.main()
