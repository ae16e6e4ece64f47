"""Tests of the form of the package: what can be seen of ../shared/LANGUAGE.md without running it."""

import ast
import builtins
import pathlib
import re
import unittest

ROOT = pathlib.Path(__file__).resolve().parent.parent
PACKAGE = ROOT / "laterletters"

BARRED_WORDS = re.compile(
    r"\b(type|typing|typing_extensions|enum|Enum|IntEnum|StrEnum|Flag|IntFlag|Generic|Protocol|ABC|ABCMeta"
    r"|namedtuple|NamedTuple|TypedDict|TYPE_CHECKING|abstractmethod)\b|dataclass|overload|contextmanager"
)


BUILTINS_USED = {
    "len", "range", "enumerate", "zip", "min", "max", "sum", "abs", "sorted", "reversed", "int", "str", "bool", "bytes",
    "list", "tuple", "dict", "set", "isinstance", "ord", "repr", "any", "all", "divmod", "ValueError",
}
METHODS_USED = {
    "append", "clear", "copy", "count", "endswith", "extend", "find", "get", "index", "insert", "items", "join", "keys",
    "pop", "remove", "replace", "reverse", "setdefault", "split", "startswith", "strip", "update", "values",
}
STATEMENTS_AT_TOP = (ast.ImportFrom, ast.FunctionDef, ast.ClassDef, ast.Assign)


def package_paths():
    return [path for path in sorted(PACKAGE.rglob("*")) if "__pycache__" not in path.parts]


def package_files():
    return [path for path in package_paths() if path.is_file()]


def functions_of(tree):
    return [node for node in ast.walk(tree) if isinstance(node, (ast.FunctionDef, ast.Lambda))]


def trees():
    return {path.stem: ast.parse(path.read_text()) for path in package_files()}


def nodes_of(kind):
    return [node for tree in trees().values() for node in ast.walk(tree) if isinstance(node, kind)]


def defined_in(tree):
    """The names that a file defines at its top."""
    names = {node.name for node in tree.body if isinstance(node, (ast.FunctionDef, ast.ClassDef))}
    for node in tree.body:
        if isinstance(node, ast.Assign):
            names |= {target.id for target in node.targets}
    return names


def imports_of(tree):
    return [node for node in tree.body if isinstance(node, ast.ImportFrom)]


def bound_in_functions(tree):
    """Parameters and whatever else a function of the file assigns to."""
    names = set()
    for function in functions_of(tree):
        for node in ast.walk(function):
            if isinstance(node, ast.arg):
                names.add(node.arg)
            if isinstance(node, ast.Name) and isinstance(node.ctx, ast.Store):
                names.add(node.id)
    return names


def method_names():
    classes = nodes_of(ast.ClassDef)
    return {node.name for one in classes for node in one.body if isinstance(node, ast.FunctionDef)}


def attributes_assigned():
    return {node.attr for node in nodes_of(ast.Attribute) if isinstance(node.ctx, ast.Store)}


class TestForm(unittest.TestCase):
    def check_each_file(self, check):
        for path in package_files():
            with self.subTest(path=path.name):
                check(path.read_bytes().decode("utf-8"))

    def test_the_folder_has_an_init_file(self):
        self.assertTrue((PACKAGE / "__init__.py").is_file())

    def test_the_folder_holds_plainly_named_python_files_alone(self):
        for path in package_paths():
            with self.subTest(path=path.name):
                self.assertTrue(path.is_dir() or re.fullmatch(r"[a-z0-9_]+\.py", path.name))

    def test_no_test_stands_inside_the_package(self):
        for path in package_paths():
            with self.subTest(path=path.name):
                self.assertNotRegex(path.name, "^test")

    def test_every_sign_is_a_plain_one(self):
        self.check_each_file(lambda text: self.assertRegex(text, r"\A[ -~\n]*\Z"))

    def test_files_and_lines_are_short(self):
        def check(text):
            lines = text.split("\n")
            self.assertLessEqual(len(lines), 401)
            self.assertLessEqual(max(map(len, lines)), 120)
        self.check_each_file(check)

    def test_functions_are_short(self):
        def check(text):
            for node in functions_of(ast.parse(text)):
                self.assertLessEqual(node.end_lineno - node.lineno + 1, 40)
        self.check_each_file(check)

    def test_barred_words_do_not_occur(self):
        self.check_each_file(lambda text: self.assertNotRegex(text, BARRED_WORDS))

    def test_only_the_package_is_imported_and_by_full_names(self):
        def check(text):
            for node in ast.walk(ast.parse(text)):
                self.assertNotIsInstance(node, ast.Import)
                if isinstance(node, ast.ImportFrom):
                    self.assertEqual(node.level, 0)
                    self.assertRegex(node.module, r"^(laterletters(\.[a-z0-9_]+)+|__future__)$")
                    self.assertNotIn("*", [name.name for name in node.names])
        self.check_each_file(check)

    def test_the_top_of_a_file_holds_no_other_statements(self):
        for name, tree in trees().items():
            self.assertIsNotNone(ast.get_docstring(tree), name)
            for node in tree.body[1:]:
                self.assertIsInstance(node, STATEMENTS_AT_TOP, name)
                if isinstance(node, ast.Assign):
                    self.assertIsInstance(node.value, ast.Constant, name)

    def test_a_name_is_imported_from_the_file_that_defines_it_and_used(self):
        files = trees()
        for name, tree in files.items():
            used = {node.id for node in ast.walk(tree) if isinstance(node, ast.Name)}
            for node in imports_of(tree):
                for imported in node.names:
                    self.assertIn(imported.name, defined_in(files[node.module.split(".")[1]]))
                    self.assertIn(imported.name, used, name)

    def test_no_two_files_import_each_other(self):
        left = {name: {node.module.split(".")[1] for node in imports_of(tree)} for name, tree in trees().items()}
        while left:
            free = [name for name, needed in left.items() if not needed & set(left)]
            self.assertNotEqual(free, [])
            left = {name: needed for name, needed in left.items() if name not in free}

    def test_no_name_hides_a_builtin_a_class_or_an_import(self):
        for name, tree in trees().items():
            taken = set(dir(builtins)) | {one.name for node in imports_of(tree) for one in node.names}
            taken |= {node.name for node in tree.body if isinstance(node, ast.ClassDef)}
            self.assertEqual(bound_in_functions(tree) & taken, set(), name)
            self.assertEqual(defined_in(tree) & set(dir(builtins)), set(), name)

    def test_names_begin_with_letters(self):
        names = method_names() | attributes_assigned()
        for tree in trees().values():
            names |= defined_in(tree) | bound_in_functions(tree)
        self.assertEqual({name for name in names if name.startswith("_")}, {"__init__"})

    def test_no_name_is_a_method_here_and_an_attribute_there(self):
        self.assertEqual(method_names() & attributes_assigned(), set())

    def test_methods_and_attributes_are_not_called_like_those_of_builtin_values(self):
        taken = {name for one in (0, "", b"", [], (), {}, set()) for name in dir(one) if not name.startswith("__")}
        self.assertEqual((method_names() | attributes_assigned()) & taken, set())

    def test_attributes_that_are_read_are_own_ones_or_plain_methods(self):
        read = {node.attr for node in nodes_of(ast.Attribute)}
        self.assertLessEqual(read, METHODS_USED | method_names() | attributes_assigned())

    def test_only_some_builtins_are_used(self):
        read = {node.id for node in nodes_of(ast.Name)} & set(dir(builtins))
        self.assertLessEqual(read, BUILTINS_USED)

    def test_is_stands_beside_none_true_and_false_alone(self):
        for node in nodes_of(ast.Compare):
            for sign, value in zip(node.ops, node.comparators):
                if isinstance(sign, (ast.Is, ast.IsNot)):
                    self.assertIn(ast.unparse(value), ("None", "True", "False"))

    def test_an_error_is_made_where_it_is_raised(self):
        for node in nodes_of(ast.Raise):
            self.assertIsInstance(node.exc, ast.Call)
            self.assertIsInstance(node.exc.func, ast.Name)

    def test_no_numbers_with_a_point_decorators_or_barred_statements(self):
        for node in nodes_of(ast.Constant):
            self.assertNotIsInstance(node.value, (float, complex))
        self.assertEqual(nodes_of((ast.Div, ast.Global, ast.AsyncFunctionDef, ast.Await, ast.Import, ast.Set)), [])
        for node in nodes_of((ast.FunctionDef, ast.ClassDef)):
            self.assertEqual(node.decorator_list, [])


if __name__ == "__main__":
    unittest.main()
