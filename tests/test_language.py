"""The package keeps to the part of the language that it is written in, as far as its text shows."""

import ast
import builtins
import pathlib
import re
import unittest

PACKAGE = pathlib.Path(__file__).resolve().parent.parent / "loopclaimsdesk"

NODES = {
    "Module", "Expr", "Constant", "ImportFrom", "alias", "FunctionDef", "ClassDef", "arguments", "arg",
    "Assign", "AugAssign", "If", "While", "For", "Return", "Break", "Continue", "Pass", "Raise", "Try",
    "ExceptHandler", "Name", "Attribute", "Subscript", "Slice", "Call", "List", "Tuple", "Dict", "ListComp",
    "comprehension", "BinOp", "UnaryOp", "BoolOp", "Compare", "IfExp", "Load", "Store", "Add", "Sub", "Mult",
    "FloorDiv", "Mod", "USub", "Not", "And", "Or", "Eq", "NotEq", "Lt", "LtE", "Gt", "GtE", "In", "NotIn",
    "Is", "IsNot",
}
OWN_NAMES_OF_PYTHON = set(
    "len range enumerate zip min max sum abs sorted reversed int str bool list tuple dict set isinstance repr any "
    "all divmod Exception ValueError KeyError".split())
METHODS = set("append extend get copy index count insert items keys values pop join".split())
WORDS = re.compile(
    r"\b(type|typing|typing_extensions|enum|Enum|IntEnum|StrEnum|Flag|IntFlag|Generic|Protocol|ABC|ABCMeta"
    r"|namedtuple|NamedTuple|TypedDict|TYPE_CHECKING|abstractmethod|register|mro|elements|open|input)\b"
    r"|dataclass|overload|contextmanager")
NAME = re.compile(r"(?!_)[A-Za-z0-9_]+\Z")


def sources():
    return [(path, path.read_text(encoding="utf-8")) for path in sorted(PACKAGE.glob("*.py"))]


def trees():
    return [(path, ast.parse(text)) for path, text in sources()]


def nodes(kinds):
    return [(path, node) for path, tree in trees() for node in ast.walk(tree) if isinstance(node, kinds)]


class Files(unittest.TestCase):
    def test_nothing_else_lies_in_the_package(self):
        for path in PACKAGE.iterdir():
            if path.name != "__pycache__":
                self.assertRegex(path.name, r"\A([a-z][a-z0-9_]*|__init__)\.py\Z")

    def test_signs_and_sizes(self):
        for path, text in sources():
            self.assertRegex(text, r"\A[ -~\n]*\Z", path.name)
            self.assertIsNone(WORDS.search(text), path.name)
            lines = text.split("\n")
            self.assertLessEqual(len(lines), 400, path.name)
            self.assertLessEqual(max(map(len, lines)), 120, path.name)

    def test_sizes_of_functions(self):
        for path, node in nodes(ast.FunctionDef):
            self.assertLessEqual(node.end_lineno - node.lineno + 1, 40, (path.name, node.name))


class Forms(unittest.TestCase):
    def test_statements_and_expressions(self):
        for path, node in nodes(ast.AST):
            self.assertIn(node.__class__.__name__, NODES, (path.name, getattr(node, "lineno", 0)))

    def test_plain_parameters(self):
        for path, node in nodes(ast.FunctionDef):
            told = node.args
            self.assertFalse(told.vararg or told.kwarg or told.kwonlyargs or told.posonlyargs or node.decorator_list)

    def test_one_target(self):
        for path, node in nodes(ast.Assign):
            self.assertEqual(len(node.targets), 1)
            self.assertNotIsInstance(node.targets[0], (ast.Tuple, ast.List), (path.name, node.lineno))

    def test_is_stands_beside_none_alone(self):
        for path, node in nodes(ast.Compare):
            for sign, right in zip(node.ops, node.comparators):
                if isinstance(sign, (ast.Is, ast.IsNot)):
                    self.assertIsInstance(right, ast.Constant)

    def test_words_by_themselves_are_calls_or_the_files_own(self):
        for path, tree in trees():
            for node in ast.walk(tree):
                if isinstance(node, ast.Expr) and node is not tree.body[0]:
                    self.assertIsInstance(node.value, ast.Call, (path.name, node.lineno))


class Names(unittest.TestCase):
    def test_plain_names(self):
        for path, node in nodes((ast.Name, ast.arg, ast.FunctionDef, ast.ClassDef, ast.Attribute)):
            name = getattr(node, "id", None) or getattr(node, "arg", None) or getattr(node, "name", None) or node.attr
            if name != "__init__":
                self.assertRegex(name, NAME, path.name)

    def test_names_of_python(self):
        for path, node in nodes(ast.Name):
            if node.id in vars(builtins):
                self.assertIn(node.id, OWN_NAMES_OF_PYTHON, (path.name, node.lineno))
                self.assertIsInstance(node.ctx, ast.Load, (path.name, node.lineno))
        for path, node in nodes((ast.arg, ast.FunctionDef, ast.ClassDef)):
            self.assertNotIn(getattr(node, "arg", None) or node.name, vars(builtins), path.name)

    def test_locals_are_not_called_like_a_class_or_an_import(self):
        for path, tree in trees():
            taken = {node.name for node in tree.body if isinstance(node, ast.ClassDef)}
            taken |= {each.name for node in tree.body if isinstance(node, ast.ImportFrom) for each in node.names}
            for owner in ast.walk(tree):
                if isinstance(owner, ast.FunctionDef):
                    bound = {node.arg for node in ast.walk(owner) if isinstance(node, ast.arg)}
                    bound |= {node.id for node in ast.walk(owner)
                              if isinstance(node, ast.Name) and isinstance(node.ctx, ast.Store)}
                    self.assertEqual(bound & taken, set(), (path.name, owner.name))

    def test_methods_and_values(self):
        methods = {node.name for path, owner in nodes(ast.ClassDef) for node in owner.body
                   if isinstance(node, ast.FunctionDef)}
        stored = {node.attr for path, node in nodes(ast.Attribute) if isinstance(node.ctx, ast.Store)}
        called = {node.func.attr for path, node in nodes(ast.Call) if isinstance(node.func, ast.Attribute)}
        self.assertEqual(methods & stored, set())
        self.assertEqual(called - methods - METHODS, set())
        for name in (methods | stored) - {"__init__"}:
            self.assertFalse(any(hasattr(kind, name) for kind in (str, int, list, dict, set, bytes)), name)

    def test_a_name_is_bound_once_at_a_files_top(self):
        for path, tree in trees():
            bound = []
            for node in tree.body:
                if isinstance(node, (ast.FunctionDef, ast.ClassDef)):
                    bound.append(node.name)
                elif isinstance(node, ast.Assign):
                    bound.append(node.targets[0].id)
                elif isinstance(node, ast.ImportFrom):
                    bound.extend(each.asname or each.name for each in node.names)
            self.assertEqual(len(bound), len(set(bound)), path.name)


class Imports(unittest.TestCase):
    def drawn(self):
        found = {}
        for path, tree in trees():
            rows = [node for node in ast.walk(tree) if isinstance(node, ast.ImportFrom)]
            for row in rows:
                self.assertIn(row, tree.body)
                self.assertRegex(row.module, r"\Aloopclaimsdesk\.[a-z_]+\Z")
            found[path.stem] = rows
        return found

    def test_from_the_file_that_defines_the_name(self):
        defined = {path.stem: {getattr(node, "name", None) or node.targets[0].id for node in tree.body
                               if isinstance(node, (ast.FunctionDef, ast.ClassDef, ast.Assign))}
                   for path, tree in trees()}
        for stem, rows in self.drawn().items():
            for row in rows:
                for each in row.names:
                    self.assertIn(each.name, defined[row.module.split(".")[1]], stem)

    def test_all_that_is_drawn_is_used(self):
        for path, tree in trees():
            used = {node.id for node in ast.walk(tree) if isinstance(node, ast.Name)}
            for row in self.drawn()[path.stem]:
                self.assertLessEqual({each.name for each in row.names}, used, path.name)

    def test_no_two_files_draw_from_one_another(self):
        left = {stem: {row.module.split(".")[1] for row in rows} for stem, rows in self.drawn().items()}
        while left:
            free = [stem for stem, others in left.items() if not others & set(left)]
            self.assertTrue(free, "a ring of imports")
            left = {stem: others for stem, others in left.items() if stem not in free}
