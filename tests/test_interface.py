"""Tests of the interface: the names, where they are defined, and how they are called."""

import inspect
import unittest

from laterletters import answers, keepers, telling

ANSWERS = {
    "Why": (["chain"], ["letters", "days", "number"]),
    "Waits": (["chain"], ["letters", "days", "number"]),
    "Ahead": ([], ["letters", "spans", "one", "other"]),
    "Perhaps": (["days"], ["letters", "spans", "one", "other"]),
}
FUNCTIONS = {
    "due_days": ["letters", "days"],
    "why": ["letters", "days", "number"],
    "handed_out": ["letters", "days", "gone"],
    "between": ["letters", "spans"],
    "surely": ["letters", "spans", "one", "other"],
}
METHODS = {
    "put": ["letter"], "change": ["number", "letter"], "take_back": ["number"], "tell": ["happening", "day"],
    "leave": ["person", "day"], "hand": [], "pass_day": [], "kept": [], "all_letters": [], "due_by_now": [],
}


def names_of(function):
    return list(inspect.signature(function).parameters)


class TestInterface(unittest.TestCase):
    def test_answers_stand_straight_under_answer(self):
        self.assertEqual(answers.Answer.__bases__, (object,))
        for name in ANSWERS:
            self.assertEqual(getattr(answers, name).__bases__, (answers.Answer,))

    def test_each_answer_has_its_own_shows(self):
        for name, (fields, arguments) in ANSWERS.items():
            self.assertIn("shows", vars(getattr(answers, name)))
            self.assertEqual(names_of(getattr(answers, name).shows), ["self"] + arguments)

    def test_fields_are_set_at_creation(self):
        for name, (fields, arguments) in ANSWERS.items():
            made = getattr(answers, name)(*[[] for field in fields])
            self.assertEqual(vars(made), {field: [] for field in fields})

    def test_functions(self):
        for name, arguments in FUNCTIONS.items():
            self.assertEqual(names_of(getattr(telling, name)), arguments)
            self.assertEqual(getattr(telling, name).__module__, "laterletters.telling")

    def test_methods_of_the_keeper(self):
        self.assertEqual(names_of(keepers.Keeper), [])
        for name, arguments in METHODS.items():
            self.assertIn(name, vars(keepers.Keeper))
            self.assertEqual(names_of(getattr(keepers.Keeper, name)), ["self"] + arguments)


if __name__ == "__main__":
    unittest.main()
