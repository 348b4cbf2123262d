"""The package keeps to its small part of Python, as far as a look at the files can tell."""

import ast
import re
import unittest
from pathlib import Path

PACKAGE = Path(__file__).resolve().parent.parent / "callroom"
FILES = sorted(PACKAGE.glob("*.py"))

BUILTINS = set("""len range enumerate zip min max sum abs sorted reversed int str bool list tuple dict set frozenset
isinstance ord repr any all divmod""".split())
METHODS = set("""append clear copy count endswith extend find get index insert isalnum isalpha isdigit islower isspace
isupper items join keys ljust lower lstrip partition pop remove replace reverse rfind rjust rpartition rsplit rstrip
setdefault split splitlines startswith strip update upper values zfill bit_length""".split())
WORDS = """type typing typing_extensions enum Enum IntEnum StrEnum Flag IntFlag Generic Protocol ABC ABCMeta namedtuple
NamedTuple TypedDict TYPE_CHECKING abstractmethod""".split()
STATEMENTS = (ast.FunctionDef, ast.ClassDef, ast.ImportFrom, ast.Assign, ast.AugAssign, ast.If, ast.While, ast.For,
              ast.Return, ast.Break, ast.Continue, ast.Pass, ast.Raise, ast.Try, ast.Expr)
EXPRESSIONS = (ast.Constant, ast.List, ast.Tuple, ast.Dict, ast.BinOp, ast.UnaryOp, ast.BoolOp, ast.Compare, ast.IfExp,
               ast.Call, ast.Attribute, ast.Subscript, ast.Slice, ast.ListComp, ast.Name, ast.Lambda, ast.JoinedStr,
               ast.FormattedValue)


def nodes():
    for path in FILES:
        for node in ast.walk(ast.parse(path.read_text())):
            yield path.name, node


def top_names(tree):
    found = set()
    for node in tree.body:
        if isinstance(node, (ast.FunctionDef, ast.ClassDef)):
            found.add(node.name)
        if isinstance(node, ast.Assign):
            found |= {target.id for target in node.targets}
        if isinstance(node, ast.ImportFrom):
            found |= {alias.name for alias in node.names}
    return found


def bound_names(tree):
    found = {node.arg for node in ast.walk(tree) if isinstance(node, ast.arg)}
    return found | {node.id for node in ast.walk(tree) if isinstance(node, ast.Name) and isinstance(node.ctx, ast.Store)}


class Files(unittest.TestCase):
    def test_nothing_else_lies_in_the_package(self):
        names = [path.name for path in PACKAGE.iterdir() if path.name != "__pycache__"]
        self.assertEqual(sorted(names), [path.name for path in FILES])
        for name in names:
            self.assertTrue(name == "__init__.py" or re.fullmatch(r"[a-z][a-z0-9_]*\.py", name))

    def test_signs_and_sizes(self):
        for path in FILES:
            lines = path.read_text(encoding="ascii").split("\n")
            self.assertLessEqual(len(lines), 401, path.name)
            for line in lines:
                self.assertLessEqual(len(line), 120, path.name)
                self.assertRegex(line, r"\A[ -~]*\Z")
        for name, node in nodes():
            if isinstance(node, ast.FunctionDef):
                self.assertLessEqual(node.end_lineno - node.lineno + 1, 40, (name, node.name))

    def test_words(self):
        for path in FILES:
            for word in WORDS:
                self.assertIsNone(re.search(rf"\b{word}\b", path.read_text()), (path.name, word))


class Forms(unittest.TestCase):
    def test_statements_and_expressions(self):
        for name, node in nodes():
            where = (name, getattr(node, "lineno", 0), type(node).__name__)
            if isinstance(node, ast.stmt):
                self.assertIsInstance(node, STATEMENTS, where)
            if isinstance(node, ast.expr):
                self.assertIsInstance(node, EXPRESSIONS, where)
            if isinstance(node, ast.Constant):
                self.assertIsInstance(node.value, (int, str, type(None)), where)
            if isinstance(node, ast.Assign):
                self.assertEqual(len(node.targets), 1, where)
            if isinstance(node, (ast.For, ast.While)):
                self.assertEqual(node.orelse, [], where)
            if isinstance(node, ast.ListComp):
                self.assertEqual(len(node.generators), 1, where)
                self.assertLessEqual(len(node.generators[0].ifs), 1, where)
            if isinstance(node, ast.operator):
                self.assertNotIsInstance(node, (ast.Div, ast.MatMult, ast.Pow), where)
            if isinstance(node, (ast.FunctionDef, ast.ClassDef)):
                self.assertEqual(node.decorator_list, [], where)

    def test_imports(self):
        for name, node in nodes():
            if isinstance(node, ast.ImportFrom):
                self.assertEqual(node.level, 0)
                path = PACKAGE / (node.module.removeprefix("callroom.") + ".py")
                self.assertTrue(node.module.startswith("callroom.") and path in FILES, (name, node.module))
                tree = ast.parse(path.read_text())
                made = top_names(ast.Module([part for part in tree.body if not isinstance(part, ast.ImportFrom)], []))
                self.assertLessEqual({alias.name for alias in node.names}, made, name)

    def test_names(self):
        for path in FILES:
            tree = ast.parse(path.read_text())
            bound, tops = bound_names(tree), top_names(tree)
            functions = {node.name for node in ast.walk(tree) if isinstance(node, ast.FunctionDef)}
            for node in ast.walk(tree):
                if isinstance(node, ast.Name):
                    self.assertIn(node.id, bound | tops | functions | BUILTINS, path.name)
            for word in bound | tops | functions - {"__init__"}:
                self.assertRegex(word, r"\A[A-Za-z][A-Za-z0-9_]*\Z")
                self.assertNotIn(word, __builtins__ if isinstance(__builtins__, dict) else dir(__builtins__))
            drawn = {alias.name for node in tree.body if isinstance(node, ast.ImportFrom) for alias in node.names}
            self.assertEqual(bound & drawn, set(), path.name)

    def test_methods(self):
        for name, node in nodes():
            if isinstance(node, ast.Call) and isinstance(node.func, ast.Attribute):
                self.assertIn(node.func.attr, METHODS, name)


if __name__ == "__main__":
    unittest.main()
