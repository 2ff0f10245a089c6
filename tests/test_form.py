"""The rules of the package's form that can be seen by a plain look at its files."""

import ast
import builtins
import pathlib
import re
import unittest

PACKAGE = pathlib.Path(__file__).resolve().parent.parent / "shorthead"

WORDS = (
    "type typing typing_extensions enum Enum IntEnum StrEnum Flag IntFlag Generic Protocol ABC ABCMeta namedtuple "
    "NamedTuple TypedDict TYPE_CHECKING abstractmethod"
).split()
WITHIN_WORDS = ("dataclass", "overload", "contextmanager")

OWN_OF_PYTHON = set(
    "len range enumerate zip min max sum abs sorted reversed int str bool bytes list tuple dict set frozenset isinstance "
    "ord repr any all divmod Exception ValueError TypeError KeyError IndexError LookupError ZeroDivisionError "
    "ArithmeticError OverflowError RuntimeError NotImplementedError AttributeError StopIteration".split()
)

# The methods of Python's own values that may stand.
LISTED = set(
    "append clear copy count endswith extend find get index insert isalnum isalpha isdigit islower isspace isupper items "
    "join keys ljust lower lstrip partition pop remove replace reverse rfind rjust rpartition rsplit rstrip setdefault "
    "split splitlines startswith strip update upper values zfill bit_length __init__".split()
)

NOT_USED = (
    ast.With, ast.Match, ast.Global, ast.Nonlocal, ast.Yield, ast.YieldFrom, ast.Await, ast.AsyncFor, ast.AsyncWith,
    ast.AsyncFunctionDef, ast.GeneratorExp, ast.NamedExpr, ast.Div, ast.MatMult, ast.Import,
)


def files():
    return sorted(path for path in PACKAGE.rglob("*") if "__pycache__" not in path.parts)


def trees():
    return {path.stem: ast.parse(path.read_text(encoding="ascii")) for path in files()}


def defined(tree):
    """The names of the defs, classes and values at a file's top."""
    names = [row.name for row in tree.body if isinstance(row, (ast.FunctionDef, ast.ClassDef))]
    return names + [row.targets[0].id for row in tree.body if isinstance(row, ast.Assign)]


def drawn_from(tree):
    """(file, name) for each name that a file imports."""
    rows = [row for row in tree.body if isinstance(row, ast.ImportFrom)]
    return [(row.module.removeprefix("shorthead."), alias.name) for row in rows for alias in row.names]


def nodes():
    for path in files():
        for node in ast.walk(ast.parse(path.read_text(encoding="ascii"))):
            yield path.name, node


class Files(unittest.TestCase):
    def test_nothing_but_python_files_with_plain_names(self):
        for path in files():
            self.assertRegex(path.name, r"\A[a-z0-9_]+\.py\Z")

    def test_signs_rows_and_sizes(self):
        for path in files():
            text = path.read_bytes().decode("ascii")
            self.assertRegex(text, r"\A[ -~\n]*\Z", path.name)
            rows = text.split("\n")
            self.assertLessEqual(len(rows), 400, path.name)
            self.assertLessEqual(max(len(row) for row in rows), 120, path.name)

    def test_words_that_stand_nowhere(self):
        found = re.compile(r"\b(" + "|".join(WORDS) + r")\b|" + "|".join(WITHIN_WORDS))
        for path in files():
            self.assertIsNone(found.search(path.read_text(encoding="ascii")), path.name)


class Rows(unittest.TestCase):
    def test_kinds_of_rows_and_signs(self):
        for name, node in nodes():
            self.assertNotIsInstance(node, NOT_USED, name)
            if isinstance(node, ast.Constant):
                self.assertNotIsInstance(node.value, (float, complex), name)
                if isinstance(node.value, str):
                    self.assertNotIn("%", node.value, name)
            if isinstance(node, ast.BinOp) and isinstance(node.op, ast.Pow):
                self.assertIsInstance(node.right, ast.Constant, name)

    def test_imports_are_of_the_package(self):
        for name, node in nodes():
            if isinstance(node, ast.ImportFrom):
                self.assertEqual(node.level, 0, name)
                self.assertRegex(node.module, r"\A(shorthead\.[a-z_]+|__future__)\Z", name)
                self.assertNotIn("*", [alias.name for alias in node.names], name)

    def test_imports_are_drawn_from_the_file_that_defines_them_and_are_used(self):
        for stem, tree in trees().items():
            used = {node.id for node in ast.walk(tree) if isinstance(node, ast.Name)}
            used |= {base.id for node in ast.walk(tree) if isinstance(node, ast.ClassDef) for base in node.bases}
            for module, name in drawn_from(tree):
                self.assertIn(name, defined(trees()[module]), stem)
                self.assertIn(name, used, stem)

    def test_no_two_files_draw_from_one_another(self):
        left = {stem: {module for module, _ in drawn_from(tree)} for stem, tree in trees().items()}
        while left:
            free = [stem for stem, modules in left.items() if not modules & set(left)]
            self.assertTrue(free, left)
            for stem in free:
                del left[stem]

    def test_each_name_is_defined_once_in_the_package(self):
        names = [name for tree in trees().values() for name in defined(tree)]
        self.assertEqual(sorted(set(names)), sorted(names))

    def test_no_local_is_called_like_a_name_of_its_files_top(self):
        for stem, tree in trees().items():
            top = set(defined(tree)) | {name for _, name in drawn_from(tree)}
            defs = [node for node in ast.walk(tree) if isinstance(node, ast.FunctionDef)]
            for node in [within for one in defs for within in ast.walk(one)]:
                if isinstance(node, ast.arg):
                    self.assertNotIn(node.arg, top, stem)
                if isinstance(node, ast.Name) and isinstance(node.ctx, ast.Store):
                    self.assertNotIn(node.id, top, stem)

    def test_defs_are_small_and_plain(self):
        for name, node in nodes():
            if isinstance(node, ast.FunctionDef):
                self.assertLessEqual(node.end_lineno - node.lineno + 1, 40, (name, node.name))
                self.assertIsNone(node.args.vararg or node.args.kwarg, (name, node.name))
                self.assertEqual(node.args.posonlyargs, [], (name, node.name))
            if isinstance(node, (ast.FunctionDef, ast.ClassDef)):
                self.assertEqual(node.decorator_list, [], (name, node.name))

    def test_names(self):
        for name, node in nodes():
            if isinstance(node, ast.Name):
                self.assertFalse(node.id.startswith("_"), (name, node.id))
                if hasattr(builtins, node.id):
                    self.assertIn(node.id, OWN_OF_PYTHON, name)
                    self.assertIsInstance(node.ctx, ast.Load, (name, node.id))
            if isinstance(node, ast.arg):
                self.assertFalse(node.arg.startswith("_") or hasattr(builtins, node.arg), (name, node.arg))


class Objects(unittest.TestCase):
    def methods(self):
        classes = [node for _, node in nodes() if isinstance(node, ast.ClassDef)]
        return [(node.name, row.name) for node in classes for row in node.body if isinstance(row, ast.FunctionDef)]

    def values(self):
        """The names of the values that objects are given."""
        return {node.attr for _, node in nodes() if isinstance(node, ast.Attribute) and isinstance(node.ctx, ast.Store)}

    def test_no_name_is_a_method_and_a_value(self):
        self.assertEqual(self.values() & {method for _, method in self.methods()}, set())

    def test_no_method_stands_twice_in_a_class(self):
        self.assertEqual(len(set(self.methods())), len(self.methods()))

    def test_methods_and_values_are_not_called_like_those_of_pythons_own(self):
        pythons = {name for kind in (str, int, list, tuple, dict, set, frozenset, bytes) for name in dir(kind)}
        own = self.values() | {method for _, method in self.methods()}
        self.assertEqual(own & pythons, {"__init__"})

    def test_what_is_asked_of_a_thing_is_there(self):
        known = self.values() | {method for _, method in self.methods()} | LISTED
        for name, node in nodes():
            if isinstance(node, ast.Attribute):
                self.assertIn(node.attr, known, name)

    def test_values_are_given_when_an_object_is_made(self):
        for name, node in nodes():
            if isinstance(node, ast.ClassDef):
                given = {row.name: self.given_in(row) for row in node.body if isinstance(row, ast.FunctionDef)}
                for method, values in given.items():
                    self.assertLessEqual(values, given["__init__"], (name, node.name, method))

    def given_in(self, method):
        return {node.attr for node in ast.walk(method)
                if isinstance(node, ast.Attribute) and isinstance(node.ctx, ast.Store)}

    def test_errors_are_made_where_they_are_raised(self):
        for name, node in nodes():
            if isinstance(node, ast.Raise) and node.exc is not None:
                self.assertIsInstance(node.exc, ast.Call, name)
                self.assertIn(node.exc.func.id, defined(trees()["errors"]), name)

    def test_is_stands_beside_none_true_and_false_alone(self):
        for name, node in nodes():
            if isinstance(node, ast.Compare):
                for sign, right in zip(node.ops, node.comparators):
                    if isinstance(sign, (ast.Is, ast.IsNot)):
                        self.assertIsInstance(right, ast.Constant, name)


if __name__ == "__main__":
    unittest.main()
