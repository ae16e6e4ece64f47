"""Tests of .ci/run, on a copy of it in a project of its own: what it runs and when it fails."""

import pathlib
import shutil
import subprocess
import tempfile
import unittest

RUN = pathlib.Path(__file__).resolve().parent.parent / ".ci" / "run"

PASSES = """
import unittest
from laterletters import errors
class Test(unittest.TestCase):
    def test_it(self):
        self.assertTrue(errors)
"""
FAILS = PASSES.replace("assertTrue", "assertFalse")
CANNOT_BE_IMPORTED = "import laterletters.nowhere\n"


class TestRun(unittest.TestCase):
    def setUp(self):
        folder = tempfile.TemporaryDirectory()
        self.addCleanup(folder.cleanup)
        self.top = pathlib.Path(folder.name).resolve()
        self.write("main/laterletters/__init__.py", "")
        self.write("main/laterletters/errors.py", "")
        self.write("shared/tests/README.md", "Tests.\n")
        (self.top / "main" / ".ci").mkdir()
        shutil.copy(RUN, self.top / "main" / ".ci" / "run")

    def write(self, name, text):
        path = self.top / name
        path.parent.mkdir(parents=True, exist_ok=True)
        path.write_text(text)

    def passes(self, cwd="main"):
        run = str(self.top / "main" / ".ci" / "run")
        done = subprocess.run(["sh", run], cwd=self.top / cwd, stdout=subprocess.PIPE, stderr=subprocess.STDOUT)
        return done.returncode == 0

    def test_it_passes_while_no_shared_test_lies_there(self):
        self.write("main/tests/test_own.py", PASSES)
        self.assertTrue(self.passes())

    def test_it_passes_without_a_shared_folder(self):
        self.write("main/tests/test_own.py", PASSES)
        shutil.rmtree(self.top / "shared")
        self.assertTrue(self.passes())

    def test_it_runs_from_any_folder(self):
        self.write("main/tests/test_own.py", PASSES)
        self.write("shared/tests/test_shared.py", PASSES)
        self.assertTrue(self.passes("."))

    def test_it_fails_if_a_test_of_the_project_fails(self):
        for text in [FAILS, CANNOT_BE_IMPORTED]:
            self.write("main/tests/test_a.py", text)
            self.write("main/tests/test_b.py", PASSES)
            self.write("shared/tests/test_shared.py", PASSES)
            with self.subTest(text=text):
                self.assertFalse(self.passes())

    def test_it_fails_if_a_shared_test_fails(self):
        for text in [FAILS, CANNOT_BE_IMPORTED]:
            self.write("main/tests/test_own.py", PASSES)
            self.write("shared/tests/test_a.py", text)
            self.write("shared/tests/test_b.py", PASSES)
            with self.subTest(text=text):
                self.assertFalse(self.passes())

    def test_a_shared_test_is_run_beside_one_of_the_same_name(self):
        self.write("main/tests/test_same.py", PASSES)
        self.write("shared/tests/test_same.py", FAILS)
        self.assertFalse(self.passes())

    def test_a_test_in_a_folder_below_is_run_too(self):
        self.write("main/tests/test_own.py", PASSES)
        self.write("shared/tests/below/test_shared.py", FAILS)
        self.assertFalse(self.passes())

    def test_it_fails_if_the_project_has_no_tests(self):
        self.assertFalse(self.passes())

    def test_it_leaves_nothing_in_the_package(self):
        self.write("main/tests/test_own.py", PASSES)
        self.assertTrue(self.passes())
        names = sorted(path.name for path in (self.top / "main" / "laterletters").iterdir())
        self.assertEqual(names, ["__init__.py", "errors.py"])


if __name__ == "__main__":
    unittest.main()
