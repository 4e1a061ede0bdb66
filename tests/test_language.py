"""Asks the package's files for those rules of LANGUAGE.md that can be seen in a file's tree.

It does not see all of them (L11, L13, L19, L23, L24, L27 and L28 only in part or not at all): a green run is no proof.
"""

import ast
import builtins
import pathlib
import re
import unittest

PACKAGE = pathlib.Path(__file__).resolve().parent.parent / "queuehold"

BUILTINS = """len range enumerate zip min max sum abs sorted reversed int str bool list tuple dict set frozenset
isinstance ord repr any all divmod Exception ValueError TypeError KeyError IndexError LookupError ZeroDivisionError
ArithmeticError OverflowError RuntimeError NotImplementedError AttributeError StopIteration""".split()

METHODS = """append clear copy count endswith extend find get index insert isalnum isalpha isdigit islower isspace
isupper items join keys ljust lower lstrip partition pop remove replace reverse rfind rjust rpartition rsplit rstrip
setdefault split splitlines startswith strip update upper values zfill bit_length""".split()

DUNDER_METHODS = "__init__ __eq__ __repr__ __str__ __len__".split()

NODES = """Module Expr ImportFrom alias FunctionDef arguments arg ClassDef Assign AugAssign If While For Return Break
Continue Pass Raise Try ExceptHandler Constant Name Attribute Subscript Slice List Tuple Dict Call keyword Lambda
BinOp UnaryOp BoolOp Compare IfExp ListComp comprehension JoinedStr FormattedValue Load Store Add Sub Mult FloorDiv
Mod Pow BitOr BitAnd BitXor LShift RShift Invert USub UAdd Not And Or Eq NotEq Lt LtE Gt GtE Is IsNot In
NotIn""".split()

WORDS = """type typing typing_extensions enum Enum IntEnum StrEnum Flag IntFlag Generic Protocol ABC ABCMeta namedtuple
NamedTuple TypedDict TYPE_CHECKING abstractmethod""".split()

BARRED = """register mro elements open input version_info with_traceback add_note format format_map""".split()


def files():
    return sorted(PACKAGE.rglob("*.py"))


def tree_of(path):
    return ast.parse(path.read_text(encoding="utf-8"))


def walk_all():
    for path in files():
        for node in ast.walk(tree_of(path)):
            yield path.name, node


def attributes_given():
    for name, node in walk_all():
        if isinstance(node, ast.Attribute) and isinstance(node.ctx, ast.Store):
            yield node.attr


def methods_of_classes():
    for name, node in walk_all():
        if isinstance(node, ast.ClassDef):
            yield node.name, [one.name for one in node.body if isinstance(one, ast.FunctionDef)]


def names_bound(node):
    if isinstance(node, (ast.FunctionDef, ast.ClassDef)):
        return [node.name]
    if isinstance(node, ast.arg):
        return [node.arg]
    if isinstance(node, (ast.Name, ast.Attribute)) and isinstance(node.ctx, ast.Store):
        return [node.id if isinstance(node, ast.Name) else node.attr]
    if isinstance(node, ast.ExceptHandler) and node.name:
        return [node.name]
    return []


class LanguageTest(unittest.TestCase):
    def test_there_are_files(self):
        self.assertIn(PACKAGE / "__init__.py", files())

    def test_files_l1_l14(self):
        for path in PACKAGE.rglob("*"):
            if "__pycache__" not in path.parts:
                self.assertRegex(path.name, r"^[a-z0-9_]+\.py$")
                self.assertNotIn(path.stem, dir(builtins))

    def test_imports_l2_l16(self):
        drawn = {}
        for path in files():
            tree = tree_of(path)
            drawn[path.stem] = []
            for node in ast.walk(tree):
                if isinstance(node, ast.ImportFrom):
                    self.assertIn(node, tree.body)
                    self.assertEqual(node.level, 0)
                    self.assertRegex(node.module, r"^queuehold\.[a-z0-9_]+$")
                    source = PACKAGE / (node.module.split(".")[1] + ".py")
                    defined = [name for one in tree_of(source).body for name in self.names_at_top(one)]
                    for one in node.names:
                        self.assertIn(one.name, defined)
                    drawn[path.stem].append(source.stem)
        while drawn:
            free = [stem for stem, others in drawn.items() if not set(others) & set(drawn)]
            self.assertTrue(free, "files draw from one another")
            drawn = {stem: others for stem, others in drawn.items() if stem not in free}

    def names_at_top(self, node):
        if isinstance(node, ast.Assign):
            return [node.targets[0].id]
        return names_bound(node)

    def test_tops_l3_l15(self):
        allowed = (ast.ImportFrom, ast.FunctionDef, ast.ClassDef, ast.Assign)
        for path in files():
            body = tree_of(path).body
            self.assertTrue(ast.get_docstring(tree_of(path)), path.name)
            for node in body[1:]:
                self.assertIsInstance(node, allowed)
            bound = [name for node in body for name in self.names_at_top(node)]
            bound += [one.name for node in body if isinstance(node, ast.ImportFrom) for one in node.names]
            self.assertEqual(len(bound), len(set(bound)), path.name)

    def test_nodes_l6_l7(self):
        for name, node in walk_all():
            with self.subTest(file=name, line=getattr(node, "lineno", 0)):
                self.assertIn(node.__class__.__name__, NODES)
                if isinstance(node, ast.Constant) and node.value is not None:
                    self.assertIn(node.value.__class__, (int, str, bool))
                if isinstance(node, ast.Assign):
                    self.assertEqual(len(node.targets), 1)
                if isinstance(node, (ast.For, ast.While)):
                    self.assertEqual(node.orelse, [])
                if isinstance(node, ast.Try):
                    self.assertEqual(node.finalbody, [])
                if isinstance(node, ast.ListComp):
                    self.assertEqual(len(node.generators), 1)
                    self.assertLessEqual(len(node.generators[0].ifs), 1)
                if isinstance(node, ast.FormattedValue):
                    self.assertIsInstance(node.value, ast.Name)

    def test_calls_stand_by_themselves_l6(self):
        for path in files():
            tree = tree_of(path)
            for node in ast.walk(tree):
                if isinstance(node, ast.Expr) and node is not tree.body[0]:
                    self.assertIsInstance(node.value, ast.Call, (path.name, node.lineno))

    def test_functions_and_classes_l4_l5_l10(self):
        for name, node in walk_all():
            if isinstance(node, ast.FunctionDef):
                self.assertEqual(node.decorator_list, [])
                args = node.args
                self.assertEqual((args.vararg, args.kwarg, args.kwonlyargs, args.posonlyargs), (None, None, [], []))
                self.assertLessEqual(node.end_lineno - node.lineno + 1, 40, (name, node.name))
            if isinstance(node, ast.ClassDef):
                self.assertEqual((node.decorator_list, node.keywords), ([], []))
                self.assertLessEqual(len(node.bases), 1)
                for one in node.body:
                    self.assertIsInstance(one, (ast.FunctionDef, ast.Pass))

    def test_built_in_names_l8_l17(self):
        for name, node in walk_all():
            if isinstance(node, ast.Name) and node.id in dir(builtins):
                self.assertIn(node.id, BUILTINS, (name, node.lineno))
            if isinstance(node, ast.Attribute):
                self.assertNotIn(node.attr, BARRED, (name, node.lineno))

    def test_names_l12_l15(self):
        methods = [method for name, found in methods_of_classes() for method in found]
        for name, node in walk_all():
            for bound in names_bound(node):
                self.assertNotIn(bound, BARRED)
                if bound not in DUNDER_METHODS:
                    self.assertRegex(bound, r"^[A-Za-z][A-Za-z0-9_]*$")
                if bound not in methods:
                    self.assertNotIn(bound, dir(builtins))

    def test_signs_and_words_l10_l14_l17(self):
        for path in files():
            text = path.read_text(encoding="utf-8")
            self.assertRegex(text, r"\A[ -~\n]*\Z")
            lines = text.split("\n")
            self.assertLessEqual(len(lines), 400)
            self.assertLessEqual(max(len(line) for line in lines), 120)
            found = set(re.findall(r"[A-Za-z0-9_]+", text)) & set(WORDS)
            self.assertEqual(found, set(), path.name)
            self.assertIsNone(re.search("dataclass|overload|contextmanager", text))

    def test_methods_and_values_l18_l26(self):
        given = set(attributes_given())
        for name, methods in methods_of_classes():
            self.assertEqual(len(methods), len(set(methods)), name)
            self.assertEqual(set(methods) & given, set(), name)
        python_own = [name for kind in (str, int, list, tuple, dict, set, bytes) for name in dir(kind)]
        self.assertEqual(given & set(python_own), set())

    def test_methods_called_l25(self):
        own = [method for name, methods in methods_of_classes() for method in methods]
        for name, node in walk_all():
            if isinstance(node, ast.Call) and isinstance(node.func, ast.Attribute):
                self.assertIn(node.func.attr, METHODS + own + ["__init__"], (name, node.lineno))

    def test_is_stands_beside_none_true_and_false_l20(self):
        for name, node in walk_all():
            if isinstance(node, ast.Compare):
                for operator, right in zip(node.ops, node.comparators):
                    if isinstance(operator, (ast.Is, ast.IsNot)):
                        self.assertIsInstance(right, ast.Constant)
                        self.assertIn(right.value, (None, True, False))

    def test_errors_taken_l19(self):
        for name, node in walk_all():
            if isinstance(node, ast.ExceptHandler):
                self.assertIsNotNone(node.type)
                for taken in ast.walk(node.type):
                    if isinstance(taken, ast.Name):
                        self.assertNotIn(taken.id, ("Exception", "TypeError", "BaseException"))

    def test_errors_are_made_on_the_spot_l19(self):
        for name, node in walk_all():
            if isinstance(node, ast.Raise):
                self.assertIsInstance(node.exc, ast.Call, (name, node.lineno))

    def test_locals_are_not_called_like_imports_and_classes_l15(self):
        for path in files():
            tree = tree_of(path)
            taken = [one.name for node in tree.body if isinstance(node, ast.ImportFrom) for one in node.names]
            taken += [node.name for node in tree.body if isinstance(node, ast.ClassDef)]
            for node in ast.walk(tree):
                if isinstance(node, ast.arg) or isinstance(node, ast.Name) and isinstance(node.ctx, ast.Store):
                    self.assertNotIn(names_bound(node)[0], taken, (path.name, node.lineno))

    def test_what_a_top_holds_is_not_changed_l15(self):
        for path in files():
            tree = tree_of(path)
            tops = [node.targets[0].id for node in tree.body if isinstance(node, ast.Assign)]
            for node in ast.walk(tree):
                if isinstance(node, (ast.Subscript, ast.Attribute)) and isinstance(node.ctx, ast.Store):
                    changed = node.value.id if isinstance(node.value, ast.Name) else None
                    self.assertNotIn(changed, tops, (path.name, node.lineno))
                if isinstance(node, ast.Return) and isinstance(node.value, ast.Name):
                    self.assertNotIn(node.value.id, tops, (path.name, node.lineno))

    def test_a_loop_does_not_change_what_it_walks_l23(self):
        for name, node in walk_all():
            if isinstance(node, ast.For):
                walked = ast.unparse(node.iter)
                for inner in [one for statement in node.body for one in ast.walk(statement)]:
                    if isinstance(inner, ast.Call) and isinstance(inner.func, ast.Attribute):
                        self.assertNotEqual(ast.unparse(inner.func.value), walked, (name, inner.lineno))


if __name__ == "__main__":
    unittest.main()
