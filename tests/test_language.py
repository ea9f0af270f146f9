"""The package keeps to the small part of Python that it's written in, as far as a walk over it can tell."""

import ast
import pathlib
import re
import unittest

PACKAGE = pathlib.Path(__file__).resolve().parent.parent / "bloodline"

NODES = """
Module Expr Constant ImportFrom alias FunctionDef arguments arg ClassDef Return Assign AugAssign If While For Break
Continue Pass Call Attribute Name Load Store Subscript Slice List Tuple Dict ListComp comprehension BoolOp And Or
UnaryOp Not USub BinOp Add Sub Mult FloorDiv Mod Compare Eq NotEq Lt LtE Gt GtE Is IsNot In NotIn IfExp
""".split()

BUILT_IN = """
len range enumerate zip min max sum abs sorted reversed int str bool list tuple dict isinstance any all divmod
""".split()

OWN_METHODS_OF_PYTHON = "append extend insert pop get items".split()

WORDS_THAT_STAND_NOWHERE = """
type typing typing_extensions enum Enum IntEnum StrEnum Flag IntFlag Generic Protocol ABC ABCMeta namedtuple
NamedTuple TypedDict TYPE_CHECKING abstractmethod
""".split()


def package_files():
    return sorted(path for path in PACKAGE.rglob("*") if "__pycache__" not in path.parts)


def trees():
    return {path.name: ast.parse(path.read_text("utf-8")) for path in package_files()}


def nodes(kind):
    return [(name, node) for name, tree in trees().items() for node in ast.walk(tree) if isinstance(node, kind)]


class Language(unittest.TestCase):
    def test_plain_files_alone(self):
        names = [path.name for path in package_files()]
        self.assertIn("__init__.py", names)
        self.assertIn("guard.py", names)
        for name in names:
            self.assertRegex(name, r"\A(__init__|[a-z][a-z0-9_]*)\.py\Z")

    def test_size_and_signs(self):
        for path in package_files():
            text = path.read_text("utf-8")
            self.assertIsNone(re.search(r"[^\n -~]", text), path.name)
            rows = text.split("\n")
            self.assertLessEqual(len(rows), 400, path.name)
            self.assertLessEqual(max(len(row) for row in rows), 120, path.name)
            for word in WORDS_THAT_STAND_NOWHERE:
                self.assertIsNone(re.search(rf"\b{word}\b", text), (path.name, word))

    def test_functions_are_short_and_plain(self):
        for name, node in nodes(ast.FunctionDef):
            self.assertLessEqual(node.end_lineno - node.lineno + 1, 40, (name, node.name))
            self.assertEqual(node.decorator_list, [])
            plain = node.args
            self.assertFalse(plain.vararg or plain.kwarg or plain.kwonlyargs or plain.posonlyargs, node.name)

    def test_only_plain_forms(self):
        for name, node in nodes(ast.AST):
            self.assertIn(node.__class__.__name__, NODES, (name, getattr(node, "lineno", 0)))

    def test_one_target_and_no_else_behind_a_loop(self):
        for name, node in nodes(ast.Assign):
            self.assertEqual(len(node.targets), 1, (name, node.lineno))
        for name, node in nodes((ast.For, ast.While)):
            self.assertEqual(node.orelse, [], (name, node.lineno))

    def test_only_whole_numbers_texts_truth_and_none(self):
        for name, node in nodes(ast.Constant):
            self.assertIn(node.value.__class__, (int, str, bool, None.__class__), (name, node.lineno))

    def test_imports_from_the_package_alone(self):
        for name, node in nodes(ast.ImportFrom):
            self.assertEqual(node.level, 0, (name, node.lineno))
            self.assertRegex(node.module, r"\Abloodline\.[a-z]+\Z")
            for drawn in node.names:
                self.assertNotEqual(drawn.name, "*")
                self.assertIsNone(drawn.asname)

    def test_names_are_plain(self):
        for name, node in nodes(ast.Name):
            self.assertRegex(node.id, r"\A[A-Za-z][A-Za-z0-9_]*\Z", (name, node.lineno))
        for name, node in nodes(ast.Attribute):
            self.assertRegex(node.attr, r"\A[A-Za-z][A-Za-z0-9_]*\Z", (name, node.lineno))

    def test_calls_are_of_own_things_or_of_those_allowed(self):
        own = {node.name for name, node in nodes((ast.FunctionDef, ast.ClassDef))}
        for name, node in nodes(ast.Call):
            if isinstance(node.func, ast.Name):
                self.assertIn(node.func.id, own | set(BUILT_IN), (name, node.lineno))
            else:
                self.assertIn(node.func.attr, own | set(OWN_METHODS_OF_PYTHON), (name, node.lineno))

    def test_no_name_is_a_method_and_a_value(self):
        methods = {inner.name for name, node in nodes(ast.ClassDef) for inner in node.body
                   if isinstance(inner, ast.FunctionDef)}
        values = {node.attr for name, node in nodes(ast.Attribute) if isinstance(node.ctx, ast.Store)}
        self.assertEqual(methods & values, set())


if __name__ == "__main__":
    unittest.main()
