"""Tests of laterletters.errors: the names, their bases, and what catches them."""

import unittest

from laterletters import errors

NAMES = [
    "BadLetters", "BadLetter", "BadDays", "BadGone", "BadSpans", "BadNumber",
    "BadHappening", "BadDay", "BadPerson", "NoDay", "Unlike", "TooMany",
]


def error_named(name):
    return getattr(errors, name)


def raised(error_class, text):
    """The error as it is caught by the class over all of Python's."""
    try:
        raise error_class(text)
    except Exception as error:
        return error


class TestNames(unittest.TestCase):
    def test_every_name_is_a_class_of_that_name(self):
        for name in ["LetterError"] + NAMES:
            with self.subTest(name=name):
                self.assertTrue(hasattr(errors, name))
                self.assertIsInstance(error_named(name), type)
                self.assertEqual(error_named(name).__name__, name)
                self.assertEqual(error_named(name).__module__, "laterletters.errors")


class TestBases(unittest.TestCase):
    def test_letter_error_stands_straight_under_value_error(self):
        self.assertEqual(errors.LetterError.__bases__, (ValueError,))

    def test_each_other_stands_straight_under_letter_error_alone(self):
        for name in NAMES:
            with self.subTest(name=name):
                self.assertEqual(error_named(name).__bases__, (errors.LetterError,))

    def test_letter_error_is_none_of_the_others(self):
        for name in NAMES:
            with self.subTest(name=name):
                self.assertFalse(issubclass(errors.LetterError, error_named(name)))

    def test_each_is_unlike_each_other_and_under_none_of_them(self):
        for name in NAMES:
            for other in NAMES:
                if name == other:
                    continue
                with self.subTest(name=name, other=other):
                    self.assertIsNot(error_named(name), error_named(other))
                    self.assertFalse(issubclass(error_named(name), error_named(other)))


class TestCatching(unittest.TestCase):
    def test_each_is_caught_as_itself_and_by_the_classes_above(self):
        for name in ["LetterError"] + NAMES:
            for catcher in [error_named(name), errors.LetterError, ValueError]:
                with self.subTest(name=name, catcher=catcher.__name__):
                    with self.assertRaises(catcher) as caught:
                        raise error_named(name)("a text")
                    self.assertIs(type(caught.exception), error_named(name))
                    self.assertEqual(str(caught.exception), "a text")

    def test_an_empty_text_is_taken_too(self):
        for name in ["LetterError"] + NAMES:
            with self.subTest(name=name):
                self.assertEqual(str(raised(error_named(name), "")), "")

    def test_none_is_caught_by_the_class_of_another(self):
        for name in ["LetterError"] + NAMES:
            for other in NAMES:
                if name == other:
                    continue
                with self.subTest(name=name, other=other):
                    error = raised(error_named(name), "a text")
                    self.assertNotIsInstance(error, error_named(other))


if __name__ == "__main__":
    unittest.main()
