"""The part of Python that the package keeps to, as far as its files show it."""

import ast
import builtins
import re
import unittest
from pathlib import Path

PACKAGE = Path(__file__).resolve().parent.parent / "costhedge"
FILES = sorted(path for path in PACKAGE.rglob("*") if "__pycache__" not in path.parts)

NODES = (
    ast.Module, ast.FunctionDef, ast.ClassDef, ast.arguments, ast.arg, ast.ImportFrom, ast.alias,
    ast.Assign, ast.AugAssign, ast.If, ast.While, ast.For, ast.Return, ast.Break, ast.Continue, ast.Pass,
    ast.Raise, ast.Try, ast.ExceptHandler, ast.Expr, ast.Call, ast.keyword, ast.Lambda, ast.Constant,
    ast.Name, ast.Attribute, ast.Subscript, ast.Slice, ast.List, ast.Tuple, ast.Dict, ast.Set,
    ast.BinOp, ast.UnaryOp, ast.BoolOp, ast.Compare, ast.IfExp, ast.ListComp, ast.comprehension,
    ast.JoinedStr, ast.FormattedValue, ast.expr_context, ast.operator, ast.unaryop, ast.boolop, ast.cmpop,
)
OWN_NAMES = set("""len range enumerate zip min max sum abs sorted reversed int str bool list tuple dict set frozenset
    isinstance ord repr any all divmod Exception ValueError TypeError KeyError IndexError LookupError ZeroDivisionError
    ArithmeticError OverflowError RuntimeError NotImplementedError StopIteration""".split())
OWN_METHODS = set("""append clear copy count endswith extend find get index insert isalnum isalpha isdigit islower
    isspace isupper items join keys ljust lower lstrip partition pop remove replace reverse rfind rjust rpartition
    rsplit rstrip setdefault split splitlines startswith strip update upper values zfill bit_length""".split())
WALKED = {"zip", "enumerate", "reversed", "range"}
UNUSED_NAMES = {"register", "mro", "elements", "open", "input", "version_info", "with_traceback", "add_note", "format",
                "format_map"}
UNUSED_WORDS = re.compile(r"\b(type|typing|typing_extensions|enum|Enum|IntEnum|StrEnum|Flag|IntFlag|Generic|Protocol|ABC"
                          r"|ABCMeta|namedtuple|NamedTuple|TypedDict|TYPE_CHECKING|abstractmethod)\b"
                          r"|dataclass|overload|contextmanager")
BUILTIN_NAMES = set(dir(builtins))


def parsed(path):
    return ast.parse(path.read_text(encoding="utf-8"))


def parsed_files():
    return [(path, parsed(path)) for path in FILES]


def bound_names(tree):
    """Every name that is bound below the file's top."""
    names = [node.arg for node in ast.walk(tree) if isinstance(node, ast.arg)]
    for node in ast.walk(tree):
        if isinstance(node, ast.Name) and isinstance(node.ctx, ast.Store):
            names.append(node.id)
    return names


def top_names(tree):
    names = []
    for node in tree.body:
        if isinstance(node, (ast.FunctionDef, ast.ClassDef)):
            names.append(node.name)
        if isinstance(node, ast.Assign):
            names.append(node.targets[0].id)
    return names


def imports_of(tree):
    return [(node.module, alias.name) for node in tree.body if isinstance(node, ast.ImportFrom) for alias in node.names]


def file_of(module):
    return PACKAGE.parent / (module.replace(".", "/") + ".py")


class Language(unittest.TestCase):
    def test_files(self):
        self.assertIn("__init__.py", [path.name for path in FILES])
        for path in FILES:
            self.assertRegex(path.name, r"^([a-z][a-z0-9_]*|__init__)\.py$")
            self.assertNotIn(path.stem, BUILTIN_NAMES)
            self.assertNotRegex(path.name, r"^(test.*|site|conftest|sitecustomize|usercustomize)\.py$")

    def test_signs_and_sizes(self):
        for path in FILES:
            rows = path.read_text(encoding="utf-8").split("\n")
            self.assertLessEqual(len(rows), 401, path)
            for row in rows:
                self.assertRegex(row, r"^[ -~]{0,120}$")
                self.assertIsNone(UNUSED_WORDS.search(row), row)

    def test_statements_and_expressions(self):
        for path, tree in parsed_files():
            for node in ast.walk(tree):
                self.assertIsInstance(node, NODES)
                self.assertNotIsInstance(node, (ast.Div, ast.MatMult))
                if isinstance(node, ast.Assign):
                    self.assertEqual(len(node.targets), 1)
                    self.assertNotIsInstance(node.targets[0], (ast.Tuple, ast.List))
                if isinstance(node, (ast.For, ast.While)):
                    self.assertEqual(node.orelse, [])
                if isinstance(node, ast.Constant):
                    self.assertNotIsInstance(node.value, (float, complex, bytes))
                if isinstance(node, ast.ListComp):
                    self.assertEqual(len(node.generators), 1)
                    self.assertLessEqual(len(node.generators[0].ifs), 1)
                if isinstance(node, ast.FormattedValue):
                    self.assertIsInstance(node.value, ast.Name)
                if isinstance(node, ast.Compare) and any(isinstance(op, (ast.Is, ast.IsNot)) for op in node.ops):
                    self.assertIsInstance(node.comparators[0], ast.Constant)

    def test_functions(self):
        for path, tree in parsed_files():
            for node in ast.walk(tree):
                if isinstance(node, (ast.FunctionDef, ast.ClassDef)):
                    self.assertEqual(node.decorator_list, [])
                if isinstance(node, ast.FunctionDef):
                    self.assertLessEqual(node.end_lineno - node.lineno + 1, 40)
                    self.assertEqual((node.args.vararg, node.args.kwarg, node.args.kwonlyargs), (None, None, []))

    def test_the_top_of_a_file(self):
        for path, tree in parsed_files():
            self.assertIsNotNone(ast.get_docstring(tree))
            for node in tree.body[1:]:
                self.assertIsInstance(node, (ast.ImportFrom, ast.FunctionDef, ast.ClassDef, ast.Assign))
            self.assertEqual(len(top_names(tree)), len(set(top_names(tree))))

    def test_imports(self):
        for path, tree in parsed_files():
            self.assertEqual(len(imports_of(tree)), sum(isinstance(n, ast.alias) for n in ast.walk(tree)))
            for module, name in imports_of(tree):
                self.assertTrue(module.startswith("costhedge."))
                self.assertIn(name, top_names(parsed(file_of(module))))

    def test_no_two_files_draw_from_one_another(self):
        drawn = {path: {file_of(module) for module, name in imports_of(tree)} for path, tree in parsed_files()}
        while drawn:
            free = [path for path in drawn if not drawn[path] & set(drawn)]
            self.assertNotEqual(free, [])
            for path in free:
                del drawn[path]

    def test_names(self):
        for path, tree in parsed_files():
            taken = BUILTIN_NAMES | {name for module, name in imports_of(tree)}
            taken |= {node.name for node in tree.body if isinstance(node, ast.ClassDef)}
            for name in bound_names(tree):
                self.assertRegex(name, r"^[A-Za-z][A-Za-z0-9_]*$")
                self.assertNotIn(name, taken | UNUSED_NAMES)
            for name in top_names(tree):
                self.assertNotIn(name, BUILTIN_NAMES | UNUSED_NAMES)
            for node in ast.walk(tree):
                if isinstance(node, ast.Name) and node.id in BUILTIN_NAMES:
                    self.assertIn(node.id, OWN_NAMES)

    def test_methods(self):
        own = set()
        for path, tree in parsed_files():
            for node in tree.body:
                if isinstance(node, ast.ClassDef):
                    own |= {part.name for part in node.body if isinstance(part, ast.FunctionDef)}
        for path, tree in parsed_files():
            for node in ast.walk(tree):
                if isinstance(node, ast.Call) and isinstance(node.func, ast.Attribute):
                    self.assertIn(node.func.attr, own | OWN_METHODS)
                if isinstance(node, ast.Attribute):
                    self.assertNotIn(node.attr, UNUSED_NAMES)

    def test_what_is_walked_is_not_kept(self):
        for path, tree in parsed_files():
            for node in ast.walk(tree):
                if isinstance(node, (ast.Assign, ast.Return)) and isinstance(node.value, ast.Call):
                    self.assertNotIn(getattr(node.value.func, "id", ""), WALKED)


if __name__ == "__main__":
    unittest.main()
