"""The package keeps to the small part of Python that it is to be written in: what of it can be seen in its trees."""

import ast
import builtins
import pathlib
import re
import unittest

PACKAGE = pathlib.Path(__file__).resolve().parent.parent / "layouts"
FILES = sorted(PACKAGE.rglob("*.py"))

NODES = (
    ast.Module, ast.FunctionDef, ast.ClassDef, ast.arguments, ast.arg, ast.ImportFrom, ast.alias,
    ast.Assign, ast.AugAssign, ast.If, ast.While, ast.For, ast.Return, ast.Break, ast.Continue, ast.Pass, ast.Raise,
    ast.Try, ast.ExceptHandler, ast.Expr,
    ast.Constant, ast.Name, ast.List, ast.Tuple, ast.Dict, ast.BinOp, ast.UnaryOp, ast.BoolOp, ast.Compare, ast.IfExp,
    ast.Call, ast.Attribute, ast.Subscript, ast.Slice, ast.ListComp, ast.comprehension, ast.Lambda,
    ast.Load, ast.Store, ast.And, ast.Or, ast.Not, ast.USub, ast.Invert,
    ast.Add, ast.Sub, ast.Mult, ast.FloorDiv, ast.Mod, ast.BitOr, ast.BitAnd, ast.BitXor, ast.LShift, ast.RShift,
    ast.Eq, ast.NotEq, ast.Lt, ast.LtE, ast.Gt, ast.GtE, ast.Is, ast.IsNot, ast.In, ast.NotIn,
    ast.keyword,
)
OWN_NAMES = set(
    "len range enumerate zip min max sum abs sorted reversed int str bool list tuple dict set frozenset isinstance ord "
    "repr any all divmod Exception ValueError TypeError KeyError IndexError LookupError ZeroDivisionError "
    "ArithmeticError OverflowError RuntimeError NotImplementedError".split())
METHODS = set(
    "append clear copy count endswith extend find get index insert isalnum isalpha isdigit islower isspace isupper "
    "items join keys ljust lower lstrip partition pop remove replace reverse rfind rjust rpartition rsplit rstrip "
    "setdefault split splitlines startswith strip update upper values zfill bit_length".split())
NOWHERE = set(
    "type typing typing_extensions enum Enum IntEnum StrEnum Flag IntFlag Generic Protocol ABC ABCMeta namedtuple "
    "NamedTuple TypedDict TYPE_CHECKING abstractmethod".split())
UNUSED = set("register mro elements open input version_info with_traceback add_note args encode format".split())
PYTHONS_OWN = {name for kind in (str, int, list, dict, set, bytes, tuple) for name in dir(kind)}


def trees():
    return [(path, ast.parse(path.read_text())) for path in FILES]


def nodes(*kinds):
    return [(path, node) for path, tree in trees() for node in ast.walk(tree) if isinstance(node, kinds)]


def bound_names():
    found = []
    for path, node in nodes(ast.Name, ast.arg, ast.FunctionDef, ast.ClassDef, ast.ExceptHandler):
        if isinstance(node, ast.Name) and isinstance(node.ctx, ast.Store):
            found.append((path, node.id))
        elif isinstance(node, ast.arg):
            found.append((path, node.arg))
        elif isinstance(node, (ast.FunctionDef, ast.ClassDef, ast.ExceptHandler)) and node.name:
            found.append((path, node.name))
    return found


class Files(unittest.TestCase):
    def test_nothing_else_lies_in_the_package(self):
        for path in PACKAGE.rglob("*"):
            if "__pycache__" not in path.parts:
                self.assertTrue(re.fullmatch(r"[a-z0-9_]+\.py", path.name), path)

    def test_size_and_signs(self):
        for path in FILES:
            rows = path.read_text(encoding="utf-8").split("\n")
            self.assertLessEqual(len(rows), 399, path)
            for row in rows:
                self.assertLessEqual(len(row), 120, (path, row))
                self.assertTrue(all(" " <= sign <= "~" for sign in row), (path, row))
        for path, node in nodes(ast.FunctionDef):
            self.assertLessEqual(node.end_lineno - node.lineno + 1, 40, (path, node.name))

    def test_words_that_stand_nowhere(self):
        for path in FILES:
            words = set(re.findall(r"\w+", path.read_text()))
            self.assertFalse(words & NOWHERE, path)
            self.assertFalse([word for word in words if re.search("dataclass|overload|contextmanager", word)], path)


class Trees(unittest.TestCase):
    def test_statements_and_expressions(self):
        for path, node in nodes(ast.AST):
            where = (path, type(node), getattr(node, "lineno", None))
            self.assertIsInstance(node, NODES, where)
            if isinstance(node, (ast.For, ast.While)):
                self.assertFalse(node.orelse, where)
            if isinstance(node, ast.Assign):
                self.assertEqual(len(node.targets), 1, where)
            if isinstance(node, ast.Try):
                self.assertFalse(node.finalbody, where)
            if isinstance(node, ast.ListComp):
                self.assertEqual(len(node.generators), 1, where)
                self.assertLessEqual(len(node.generators[0].ifs), 1, where)
            if isinstance(node, ast.Constant):
                self.assertIn(type(node.value), (int, str, bool, type(None)), where)
                if isinstance(node.value, str):
                    self.assertNotIn("%", node.value, where)

    def test_expressions_by_themselves_are_calls(self):
        for path, tree in trees():
            texts = [tree.body[0]] if tree.body else []
            for node in ast.walk(tree):
                if isinstance(node, ast.Expr) and node not in texts:
                    self.assertIsInstance(node.value, ast.Call, (path, node.lineno))

    def test_the_top_of_a_file(self):
        for path, tree in trees():
            self.assertIsNotNone(ast.get_docstring(tree), path)
            for node in tree.body[1:]:
                self.assertIsInstance(node, (ast.ImportFrom, ast.FunctionDef, ast.ClassDef, ast.Assign), path)
            if path.name == "__init__.py":
                self.assertEqual(len(tree.body), 1, path)

    def test_functions_and_classes_are_plain(self):
        for path, node in nodes(ast.FunctionDef):
            self.assertFalse(node.decorator_list or node.args.vararg or node.args.kwarg or node.args.kwonlyargs)
        for path, node in nodes(ast.ClassDef):
            self.assertFalse(node.decorator_list or node.keywords, (path, node.name))
            self.assertLessEqual(len(node.bases), 1, (path, node.name))
            for part in node.body:
                self.assertIsInstance(part, (ast.FunctionDef, ast.Pass), (path, node.name))

    def test_is_stands_beside_none_true_and_false(self):
        for path, node in nodes(ast.Compare):
            for sign, right in zip(node.ops, node.comparators):
                if isinstance(sign, (ast.Is, ast.IsNot)):
                    self.assertTrue(isinstance(right, ast.Constant) and right.value in (None, True, False), path)


class Imports(unittest.TestCase):
    def test_from_the_packages_own_files_by_full_names(self):
        drawn = {path.stem: set() for path in FILES}
        for path, node in nodes(ast.ImportFrom):
            self.assertEqual(node.level, 0, path)
            self.assertTrue(node.module.startswith("layouts."), (path, node.module))
            source = node.module.split(".")[1]
            own = {part.name for part in ast.parse((PACKAGE / (source + ".py")).read_text()).body
                   if isinstance(part, (ast.FunctionDef, ast.ClassDef))}
            for name in node.names:
                self.assertIsNone(name.asname, path)
                self.assertIn(name.name, own, path)
            drawn[path.stem].add(source)
        while drawn:
            ended = [stem for stem in drawn if not drawn[stem] & set(drawn)]
            self.assertTrue(ended, "files that draw from one another: " + repr(drawn))
            for stem in ended:
                del drawn[stem]


class Names(unittest.TestCase):
    def test_pythons_own_names(self):
        for path, node in nodes(ast.Name):
            if hasattr(builtins, node.id):
                self.assertIn(node.id, OWN_NAMES, (path, node.lineno))

    def test_no_name_is_like_one_of_pythons_own(self):
        for path, name in bound_names():
            if name != "__init__":
                self.assertFalse(hasattr(builtins, name), (path, name))
                self.assertNotIn(name, UNUSED, path)
                self.assertTrue(re.fullmatch(r"[A-Za-z][A-Za-z0-9_]*", name), (path, name))

    def test_no_local_is_called_like_a_class_or_an_import_of_its_file(self):
        for path, tree in trees():
            tops = {alias.name for part in tree.body if isinstance(part, ast.ImportFrom) for alias in part.names}
            tops |= {part.name for part in tree.body if isinstance(part, ast.ClassDef)}
            stored = {node.id for node in ast.walk(tree) if isinstance(node, ast.Name) and isinstance(node.ctx, ast.Store)}
            stored |= {node.arg for node in ast.walk(tree) if isinstance(node, ast.arg)}
            self.assertFalse(tops & stored, path)

    def test_methods_and_values_of_objects(self):
        methods = {part.name for path, node in nodes(ast.ClassDef) for part in node.body
                   if isinstance(part, ast.FunctionDef)} - {"__init__"}
        stored = {node.attr for path, node in nodes(ast.Attribute) if isinstance(node.ctx, ast.Store)}
        self.assertFalse(methods & stored)
        self.assertFalse((methods | stored) & PYTHONS_OWN)
        for path, node in nodes(ast.Attribute):
            self.assertTrue(node.attr in methods | stored | METHODS or node.attr == "__init__", (path, node.attr))
            self.assertNotIn(node.attr, UNUSED, path)


if __name__ == "__main__":
    unittest.main()
