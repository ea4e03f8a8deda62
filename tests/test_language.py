"""The package's own files keep to the small part of Python that the program is written in."""

import ast
import builtins
import re
import unittest
from pathlib import Path

PACKAGE = Path(__file__).resolve().parent.parent / "hourhaul"
FILES = sorted(PACKAGE.glob("*.py"))

STATEMENTS = (
    ast.FunctionDef, ast.ClassDef, ast.ImportFrom, ast.Assign, ast.AugAssign, ast.If, ast.While, ast.For,
    ast.Return, ast.Break, ast.Continue, ast.Pass, ast.Raise, ast.Try, ast.Expr,
)
EXPRESSIONS = (
    ast.Constant, ast.List, ast.Tuple, ast.Dict, ast.Set, ast.BinOp, ast.UnaryOp, ast.BoolOp, ast.Compare,
    ast.IfExp, ast.Call, ast.Attribute, ast.Subscript, ast.Slice, ast.ListComp, ast.JoinedStr, ast.FormattedValue,
    ast.Lambda, ast.Name,
)
BUILT_IN = set(
    "len range enumerate zip min max sum abs sorted reversed int str bool list tuple dict set frozenset isinstance "
    "ord repr any all divmod Exception ValueError TypeError KeyError IndexError LookupError ZeroDivisionError "
    "ArithmeticError OverflowError RuntimeError NotImplementedError AttributeError StopIteration".split()
)
METHODS = set(
    "append clear copy count endswith extend find get index insert isalnum isalpha isdigit islower isspace isupper "
    "items join keys ljust lower lstrip partition pop remove replace reverse rfind rjust rpartition rsplit rstrip "
    "setdefault split splitlines startswith strip update upper values zfill bit_length".split()
)
NO_WORDS = (
    r"\b(type|typing|typing_extensions|enum|Enum|IntEnum|StrEnum|Flag|IntFlag|Generic|Protocol|ABC|ABCMeta|namedtuple"
    r"|NamedTuple|TypedDict|TYPE_CHECKING|abstractmethod)\b|dataclass|overload|contextmanager"
)
WALKED = ("zip", "enumerate", "reversed", "range", "items", "keys", "values")
WALKERS = ("list", "tuple", "dict", "sorted", "sum", "any", "all", "enumerate", "zip", "min", "max", "join")
DUNDERS = ("__init__", "__eq__", "__repr__", "__str__", "__len__")


def bound_names(tree):
    """Every name that a file gives a meaning to: defs, classes, imports, parameters, locals."""
    names = set()
    for node in ast.walk(tree):
        if isinstance(node, (ast.FunctionDef, ast.ClassDef)):
            names.add(node.name)
        elif isinstance(node, ast.arg):
            names.add(node.arg)
        elif isinstance(node, ast.alias):
            names.add(node.asname or node.name)
        elif isinstance(node, ast.Name) and isinstance(node.ctx, ast.Store):
            names.add(node.id)
        elif isinstance(node, ast.ExceptHandler) and node.name:
            names.add(node.name)
    return names


def called(node):
    """The name of the function or method that a call calls, None of what is no call."""
    if not isinstance(node, ast.Call):
        return None
    return node.func.attr if isinstance(node.func, ast.Attribute) else node.func.id


def top_names(tree):
    """What a file defines itself, at its top."""
    names = [node.name for node in tree.body if isinstance(node, (ast.FunctionDef, ast.ClassDef))]
    return names + [node.targets[0].id for node in tree.body if isinstance(node, ast.Assign)]


class Language(unittest.TestCase):
    def each(self, *kinds):
        for path in FILES:
            for node in ast.walk(ast.parse(path.read_text())):
                if isinstance(node, kinds):
                    yield f"{path.name}:{getattr(node, 'lineno', '')}", node

    def test_there_are_files(self):
        names = {path.stem for path in FILES}
        asked = "__init__ errors nets walks plans carried streams fullest bends light closed hauls soonest chains"
        asked += " always sums calendars calplans hournets lit alwayscal starts shares lanes worths texts desk"
        self.assertLessEqual(set(asked.split()), names)

    def test_signs_sizes_and_words(self):
        for path in FILES:
            text = path.read_text(encoding="utf-8")
            lines = text.split("\n")
            self.assertRegex(text, r"\A[ -~\n]*\n\Z", path.name)
            self.assertLessEqual(len(lines) - 1, 400, path.name)
            self.assertLessEqual(max(map(len, lines)), 120, path.name)
            self.assertIsNone(re.search(NO_WORDS, text), path.name)

    def test_statements_and_expressions(self):
        for where, node in self.each(ast.stmt):
            self.assertIsInstance(node, STATEMENTS, where)
        for where, node in self.each(ast.expr):
            self.assertIsInstance(node, EXPRESSIONS, where)

    def test_functions(self):
        for where, node in self.each(ast.FunctionDef):
            self.assertLessEqual(node.end_lineno - node.lineno + 1, 40, where)
            self.assertEqual(node.decorator_list, [], where)
            plain = node.args
            self.assertIsNone(plain.vararg or plain.kwarg or node.returns, where)
            self.assertEqual(plain.kwonlyargs + plain.posonlyargs, [], where)
            self.assertEqual([arg for arg in plain.args if arg.annotation], [], where)

    def test_single_statements(self):
        for where, node in self.each(ast.Assign):
            self.assertEqual(len(node.targets), 1, where)
        for where, node in self.each(ast.For, ast.While):
            self.assertEqual(node.orelse, [], where)
        for where, node in self.each(ast.ListComp):
            self.assertEqual(len(node.generators), 1, where)
            self.assertLessEqual(len(node.generators[0].ifs), 1, where)
        for where, node in self.each(ast.Try):
            self.assertEqual(node.finalbody, [], where)
        for where, node in self.each(ast.ImportFrom):
            self.assertEqual(node.level, 0, where)
            self.assertRegex(node.module, r"^hourhaul\.", where)
        for where, node in self.each(ast.Constant):
            self.assertNotIsInstance(node.value, (float, bytes, complex), where)

    def test_expressions_by_themselves_are_calls_or_the_files_docstring(self):
        for path in FILES:
            tree = ast.parse(path.read_text())
            self.assertIsNotNone(ast.get_docstring(tree), path.name)
            for node in ast.walk(tree):
                if isinstance(node, ast.Expr) and node is not tree.body[0]:
                    self.assertIsInstance(node.value, ast.Call, f"{path.name}:{node.lineno}")

    def test_signs_between_values(self):
        for where, node in self.each(ast.Compare):
            for sign, right in zip(node.ops, node.comparators):
                if isinstance(sign, (ast.Is, ast.IsNot)):
                    self.assertIsInstance(right, ast.Constant, where)
        for where, node in self.each(ast.BinOp):
            self.assertNotIsInstance(node.op, (ast.Div, ast.MatMult), where)

    def test_names(self):
        for path in FILES:
            tree = ast.parse(path.read_text())
            bound = bound_names(tree)
            self.assertEqual(bound & (BUILT_IN | set(dir(builtins))), set(), path.name)
            for name in bound - set(DUNDERS):
                self.assertRegex(name, r"\A[A-Za-z][A-Za-z0-9_]*\Z", path.name)
            for node in ast.walk(tree):
                if isinstance(node, ast.Name):
                    self.assertIn(node.id, bound | BUILT_IN, f"{path.name}:{node.lineno}")

    def test_names_of_classes_and_imports_have_no_other_meaning(self):
        for path in FILES:
            tree = ast.parse(path.read_text())
            taken = [alias.name for node in tree.body if isinstance(node, ast.ImportFrom) for alias in node.names]
            names = taken + top_names(tree)
            self.assertEqual(len(names), len(set(names)), path.name)
            for node in ast.walk(tree):
                if isinstance(node, ast.arg):
                    self.assertNotIn(node.arg, names, path.name)
                elif isinstance(node, ast.Name) and isinstance(node.ctx, ast.Store) and node.col_offset > 0:
                    self.assertNotIn(node.id, names, path.name)

    def test_what_is_drawn_from_another_file_is_defined_there_and_used(self):
        trees = {path.stem: ast.parse(path.read_text()) for path in FILES}
        for stem, tree in trees.items():
            used = {node.id for node in ast.walk(tree) if isinstance(node, ast.Name)}
            for node in tree.body:
                if isinstance(node, ast.ImportFrom):
                    own = top_names(trees[node.module.partition(".")[2]])
                    for alias in node.names:
                        self.assertIsNone(alias.asname, stem)
                        self.assertIn(alias.name, own, stem)
                        self.assertIn(alias.name, used, stem)

    def test_no_files_draw_from_one_another(self):
        drawn = {}
        for path in FILES:
            froms = [node for node in ast.parse(path.read_text()).body if isinstance(node, ast.ImportFrom)]
            drawn[path.stem] = {node.module.partition(".")[2] for node in froms}
        while drawn:
            free = [stem for stem, others in drawn.items() if not others & set(drawn)]
            self.assertNotEqual(free, [], drawn)
            for stem in free:
                del drawn[stem]

    def test_each_name_is_defined_in_one_file(self):
        names = [name for path in FILES for name in top_names(ast.parse(path.read_text()))]
        self.assertEqual(sorted(names), sorted(set(names)))

    def test_walked_at_once(self):
        for path in FILES:
            tree = ast.parse(path.read_text())
            walked = []
            for node in ast.walk(tree):
                if isinstance(node, (ast.For, ast.comprehension)):
                    walked.append(node.iter)
                elif called(node) in WALKERS:
                    walked.extend(node.args[:1])
            for node in ast.walk(tree):
                if called(node) in WALKED:
                    self.assertTrue(any(node is other for other in walked), f"{path.name}:{node.lineno}")

    def test_powers_are_written_out(self):
        for where, node in self.each(ast.BinOp):
            if isinstance(node.op, ast.Pow):
                self.assertIsInstance(node.right, ast.Constant, where)
                self.assertLessEqual(node.right.value, 64, where)

    def test_methods_of_pythons_own_values(self):
        own = set(DUNDERS)
        for where, node in self.each(ast.ClassDef):
            own.update(part.name for part in node.body if isinstance(part, ast.FunctionDef))
        for where, node in self.each(ast.Call):
            if isinstance(node.func, ast.Attribute):
                self.assertIn(node.func.attr, METHODS | own, where)


if __name__ == "__main__":
    unittest.main()
