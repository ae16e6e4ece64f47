"""Tests of the form of the package: what can be seen of ../shared/LANGUAGE.md without running it."""

import ast
import pathlib
import re
import unittest

ROOT = pathlib.Path(__file__).resolve().parent.parent
PACKAGE = ROOT / "laterletters"

BARRED_WORDS = re.compile(
    r"\b(type|typing|typing_extensions|enum|Enum|IntEnum|StrEnum|Flag|IntFlag|Generic|Protocol|ABC|ABCMeta"
    r"|namedtuple|NamedTuple|TypedDict|TYPE_CHECKING|abstractmethod)\b|dataclass|overload|contextmanager"
)


def package_paths():
    return [path for path in sorted(PACKAGE.rglob("*")) if "__pycache__" not in path.parts]


def package_files():
    return [path for path in package_paths() if path.is_file()]


def functions_of(tree):
    return [node for node in ast.walk(tree) if isinstance(node, (ast.FunctionDef, ast.Lambda))]


class TestForm(unittest.TestCase):
    def check_each_file(self, check):
        for path in package_files():
            with self.subTest(path=path.name):
                check(path.read_bytes().decode("utf-8"))

    def test_the_folder_has_an_init_file(self):
        self.assertTrue((PACKAGE / "__init__.py").is_file())

    def test_the_folder_holds_plainly_named_python_files_alone(self):
        for path in package_paths():
            with self.subTest(path=path.name):
                self.assertTrue(path.is_dir() or re.fullmatch(r"[a-z0-9_]+\.py", path.name))

    def test_no_test_stands_inside_the_package(self):
        for path in package_paths():
            with self.subTest(path=path.name):
                self.assertNotRegex(path.name, "^test")

    def test_every_sign_is_a_plain_one(self):
        self.check_each_file(lambda text: self.assertRegex(text, r"\A[ -~\n]*\Z"))

    def test_files_and_lines_are_short(self):
        def check(text):
            lines = text.split("\n")
            self.assertLessEqual(len(lines), 401)
            self.assertLessEqual(max(map(len, lines)), 120)
        self.check_each_file(check)

    def test_functions_are_short(self):
        def check(text):
            for node in functions_of(ast.parse(text)):
                self.assertLessEqual(node.end_lineno - node.lineno + 1, 40)
        self.check_each_file(check)

    def test_barred_words_do_not_occur(self):
        self.check_each_file(lambda text: self.assertNotRegex(text, BARRED_WORDS))

    def test_only_the_package_is_imported_and_by_full_names(self):
        def check(text):
            for node in ast.walk(ast.parse(text)):
                self.assertNotIsInstance(node, ast.Import)
                if isinstance(node, ast.ImportFrom):
                    self.assertEqual(node.level, 0)
                    self.assertRegex(node.module, r"^(laterletters(\.[a-z0-9_]+)+|__future__)$")
                    self.assertNotIn("*", [name.name for name in node.names])
        self.check_each_file(check)


if __name__ == "__main__":
    unittest.main()
