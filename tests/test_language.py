"""The package keeps to the small part of Python that it's written in, as far as a walk over it can tell."""

import ast
import builtins
import pathlib
import re
import unittest

PACKAGE = pathlib.Path(__file__).resolve().parent.parent / "bloodline"

NODES = """
Module Expr Constant ImportFrom alias FunctionDef arguments arg ClassDef Return Assign AugAssign If While For Break
Continue Pass Call Attribute Name Load Store Subscript Slice List Tuple Dict ListComp comprehension BoolOp And Or
UnaryOp Not USub BinOp Add Sub Mult FloorDiv Mod Compare Eq NotEq Lt LtE Gt GtE Is IsNot In NotIn IfExp
""".split()

BUILT_IN = """
len range enumerate zip min max sum abs sorted reversed int str bool list tuple dict isinstance any all divmod
""".split()

OWN_METHODS_OF_PYTHON = "append extend insert pop get items".split()

WORDS_THAT_STAND_NOWHERE = """
type typing typing_extensions enum Enum IntEnum StrEnum Flag IntFlag Generic Protocol ABC ABCMeta namedtuple
NamedTuple TypedDict TYPE_CHECKING abstractmethod
""".split()

NAMES_NOT_USED = """
register mro elements open input version_info with_traceback add_note attrgetter breakpoint builtins compile copyright
credits delattr dir eval exec exit gc getattr globals hasattr help id importlib license locals methodcaller os quit
setattr super sys vars
""".split()

VALUES_NOT_USED = """
items keys values pop update append clear extend insert remove reverse setdefault sort args encode format
""".split()


def package_files():
    return sorted(path for path in PACKAGE.rglob("*") if "__pycache__" not in path.parts)


def trees():
    return {path.name: ast.parse(path.read_text("utf-8")) for path in package_files()}


def nodes(kind):
    return [(name, node) for name, tree in trees().items() for node in ast.walk(tree) if isinstance(node, kind)]


def names_bound_at_top(part):
    if isinstance(part, ast.ImportFrom):
        return [drawn.name for drawn in part.names]
    if isinstance(part, ast.Assign):
        return [part.targets[0].id]
    return [part.name] if isinstance(part, (ast.FunctionDef, ast.ClassDef)) else []


class Language(unittest.TestCase):
    def test_plain_files_alone(self):
        names = [path.name for path in package_files()]
        self.assertIn("__init__.py", names)
        self.assertIn("guard.py", names)
        for name in names:
            self.assertRegex(name, r"\A(__init__|[a-z][a-z0-9_]*)\.py\Z")

    def test_size_and_signs(self):
        for path in package_files():
            text = path.read_text("utf-8")
            self.assertIsNone(re.search(r"[^\n -~]", text), path.name)
            rows = text.split("\n")
            self.assertLessEqual(len(rows), 400, path.name)
            self.assertLessEqual(max(len(row) for row in rows), 120, path.name)
            for word in WORDS_THAT_STAND_NOWHERE:
                self.assertIsNone(re.search(rf"\b{word}\b", text), (path.name, word))

    def test_functions_are_short_and_plain(self):
        for name, node in nodes(ast.FunctionDef):
            self.assertLessEqual(node.end_lineno - node.lineno + 1, 40, (name, node.name))
            self.assertEqual(node.decorator_list, [])
            plain = node.args
            self.assertFalse(plain.vararg or plain.kwarg or plain.kwonlyargs or plain.posonlyargs, node.name)

    def test_only_plain_forms(self):
        for name, node in nodes(ast.AST):
            self.assertIn(node.__class__.__name__, NODES, (name, getattr(node, "lineno", 0)))

    def test_one_target_and_no_else_behind_a_loop(self):
        for name, node in nodes(ast.Assign):
            self.assertEqual(len(node.targets), 1, (name, node.lineno))
        for name, node in nodes((ast.For, ast.While)):
            self.assertEqual(node.orelse, [], (name, node.lineno))

    def test_only_whole_numbers_texts_truth_and_none(self):
        for name, node in nodes(ast.Constant):
            self.assertIn(node.value.__class__, (int, str, bool, None.__class__), (name, node.lineno))

    def test_imports_from_the_package_alone(self):
        for name, node in nodes(ast.ImportFrom):
            self.assertEqual(node.level, 0, (name, node.lineno))
            self.assertRegex(node.module, r"\Abloodline\.[a-z]+\Z")
            for drawn in node.names:
                self.assertNotEqual(drawn.name, "*")
                self.assertIsNone(drawn.asname)

    def test_names_are_plain(self):
        for name, node in nodes(ast.Name):
            self.assertRegex(node.id, r"\A[A-Za-z][A-Za-z0-9_]*\Z", (name, node.lineno))
        for name, node in nodes(ast.Attribute):
            self.assertRegex(node.attr, r"\A[A-Za-z][A-Za-z0-9_]*\Z", (name, node.lineno))

    def test_calls_are_of_own_things_or_of_those_allowed(self):
        own = {node.name for name, node in nodes((ast.FunctionDef, ast.ClassDef))}
        for name, node in nodes(ast.Call):
            if isinstance(node.func, ast.Name):
                self.assertIn(node.func.id, own | set(BUILT_IN), (name, node.lineno))
            else:
                self.assertIn(node.func.attr, own | set(OWN_METHODS_OF_PYTHON), (name, node.lineno))

    def test_the_top_of_a_file(self):
        for name, tree in trees().items():
            self.assertIsNotNone(ast.get_docstring(tree), name)
            bound = []
            for part in tree.body[1:]:
                self.assertIsInstance(part, (ast.ImportFrom, ast.FunctionDef, ast.ClassDef, ast.Assign), name)
                bound += names_bound_at_top(part)
            self.assertEqual(len(bound), len(set(bound)), name)

    def test_no_local_is_called_like_an_import_a_class_or_a_name_of_python(self):
        for name, tree in trees().items():
            taken = set(dir(builtins))
            for part in tree.body:
                if isinstance(part, (ast.ImportFrom, ast.ClassDef)):
                    taken |= set(names_bound_at_top(part))
            for inner in ast.walk(tree):
                if isinstance(inner, ast.arg):
                    self.assertNotIn(inner.arg, taken, (name, inner.lineno))
                if isinstance(inner, ast.Name) and isinstance(inner.ctx, ast.Store):
                    self.assertNotIn(inner.id, taken, (name, inner.lineno))

    def test_imports_are_from_the_defining_file_and_go_one_way(self):
        found = trees()
        drawn_from = {name: set() for name in found}
        for name, node in nodes(ast.ImportFrom):
            origin = node.module.split(".")[1] + ".py"
            drawn_from[name].add(origin)
            defined = [bound for part in found[origin].body if not isinstance(part, ast.ImportFrom)
                       for bound in names_bound_at_top(part)]
            for drawn in node.names:
                self.assertIn(drawn.name, defined, (name, node.lineno))
        left = dict(drawn_from)
        while left:
            ready = [name for name, origins in left.items() if not origins & set(left)]
            self.assertNotEqual(ready, [], left)
            for name in ready:
                left.pop(name)

    def test_every_import_is_used(self):
        for name, tree in trees().items():
            used = {node.id for node in ast.walk(tree) if isinstance(node, ast.Name)}
            for part in tree.body:
                if isinstance(part, ast.ImportFrom):
                    self.assertLessEqual(set(names_bound_at_top(part)), used, name)

    def test_names_that_are_not_used(self):
        for name, node in nodes(ast.Name):
            self.assertNotIn(node.id, NAMES_NOT_USED, (name, node.lineno))
        for name, node in nodes(ast.Attribute):
            self.assertNotIn(node.attr, NAMES_NOT_USED, (name, node.lineno))
            if isinstance(node.ctx, ast.Store):
                self.assertNotIn(node.attr, VALUES_NOT_USED, (name, node.lineno))

    def test_is_stands_beside_none_true_and_false(self):
        for name, node in nodes(ast.Compare):
            for operator, right in zip(node.ops, node.comparators):
                if isinstance(operator, (ast.Is, ast.IsNot)):
                    self.assertIsInstance(right, ast.Constant, (name, node.lineno))
                    self.assertIn(right.value, (None, True, False), (name, node.lineno))

    def test_lists_and_dicts_of_the_top_hold_none_themselves(self):
        for name, tree in trees().items():
            for part in tree.body:
                if isinstance(part, ast.Assign):
                    inner = [node for node in ast.walk(part.value) if isinstance(node, (ast.List, ast.Dict))]
                    self.assertLessEqual(len(inner), 1, (name, part.lineno))

    def test_no_name_is_a_method_and_a_value(self):
        methods = {inner.name for name, node in nodes(ast.ClassDef) for inner in node.body
                   if isinstance(inner, ast.FunctionDef)}
        values = {node.attr for name, node in nodes(ast.Attribute) if isinstance(node.ctx, ast.Store)}
        self.assertEqual(methods & values, set())


if __name__ == "__main__":
    unittest.main()
