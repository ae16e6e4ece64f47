"""Tests of what is refused, everywhere, by which error, and that nothing is changed by it: points 1, 2, 6, 8."""

import copy
import itertools
import unittest

from laterletters import errors, telling
from laterletters.keepers import Keeper
from samples import (
    bad_day_lists, bad_letters, bad_numbers, bad_spans, good_letter, in_other_kinds, odd_values, state_of,
)

LETTERS = [([0], [("day", 2), ("when", 1, 0)]), ([1, 2], [("after", 0, 3)]), ([9], [("when", 5, 0)])]
DAYS = [0, 3, None, None, 60, 1]
GONE = [None, 0, 60, None, None, 3, None, None, None, 9]
SPANS = [None, (0, 60), None, (3, 3), None, (0, 1)]

GOOD = {"letters": LETTERS, "days": DAYS, "gone": GONE, "spans": SPANS, "number": 1, "one": 0, "other": 1}
ERRORS = {
    "letters": errors.BadLetters, "days": errors.BadDays, "gone": errors.BadGone, "spans": errors.BadSpans,
    "number": errors.BadNumber, "one": errors.BadNumber, "other": errors.BadNumber,
}
FUNCTIONS = {
    "due_days": ("letters", "days"),
    "why": ("letters", "days", "number"),
    "handed_out": ("letters", "days", "gone"),
    "between": ("letters", "spans"),
    "surely": ("letters", "spans", "one", "other"),
}


def bad_lists_of_letters():
    bad = odd_values() + in_other_kinds(LETTERS) + [[], LETTERS * 14, LETTERS[0], [LETTERS[1], LETTERS[0]]]
    for place in range(3):
        goods = [good_letter(at) for at in range(3)]
        bad += [goods[:place] + [letter] + goods[place + 1:] for letter in bad_letters(place)]
    return bad


def all_bad():
    return {
        "letters": bad_lists_of_letters(), "days": bad_day_lists(6), "gone": bad_day_lists(10), "spans": bad_spans(),
        "number": bad_numbers(3), "one": bad_numbers(3), "other": bad_numbers(3),
    }


class Refusals(unittest.TestCase):
    def check_refused(self, error, call, *handed_in):
        """Refused by just that class; the values aren't shown, as some of them are too long for it."""
        try:
            call(*handed_in)
        except errors.LetterError as refusal:
            self.assertIs(type(refusal), error)
        else:
            self.fail("not refused")


class TestTelling(Refusals):
    def test_the_good_ones_go(self):
        for name, arguments in FUNCTIONS.items():
            getattr(telling, name)(*[GOOD[argument] for argument in arguments])
        self.assertEqual(len(telling.due_days([good_letter(at) for at in range(3)], DAYS)), 3)

    def test_each_bad_thing_in_each_place(self):
        bad = all_bad()
        before = copy.deepcopy(GOOD)
        for name, arguments in FUNCTIONS.items():
            for at, argument in enumerate(arguments):
                handed_in = [GOOD[other] for other in arguments]
                for turn, value in enumerate(bad[argument]):
                    handed_in[at] = value
                    with self.subTest(name=name, argument=argument, turn=turn):
                        self.check_refused(ERRORS[argument], getattr(telling, name), *handed_in)
        self.assertEqual(GOOD, before)

    def test_of_two_what_is_told_first(self):
        bad = {name: values[::40] for name, values in all_bad().items()}
        for name, arguments in FUNCTIONS.items():
            for at, argument in enumerate(arguments):
                handed_in = [GOOD[other] for other in arguments]
                behind = [bad[other] for other in arguments[at + 1:]]
                for turn, values in enumerate(itertools.product(bad[argument], *[some[:4] for some in behind])):
                    handed_in[at:] = values
                    with self.subTest(name=name, argument=argument, turn=turn):
                        self.check_refused(ERRORS[argument], getattr(telling, name), *handed_in)

    def test_bad_numbers_ahead_of_no_day(self):
        spans = [None] * 6
        self.check_refused(errors.NoDay, telling.surely, LETTERS, spans, 0, 2)
        self.check_refused(errors.NoDay, telling.surely, LETTERS, spans, 2, 1)
        for number in (0, 1, 2):
            self.check_refused(errors.BadNumber, telling.surely, LETTERS, spans, number, number)
            for bad in bad_numbers(3):
                self.check_refused(errors.BadNumber, telling.surely, LETTERS, spans, number, bad)
                self.check_refused(errors.BadNumber, telling.surely, LETTERS, spans, bad, number)

    def test_the_number_of_letters_bounds_the_numbers(self):
        letter = ([0], [("day", 1)])
        for many in (1, 2, 39, 40):
            self.assertTrue(telling.why([letter] * many, DAYS, many - 1).shows([letter] * many, DAYS, many - 1))
            for number in (many, many + 1, -1, -many):
                self.check_refused(errors.BadNumber, telling.why, [letter] * many, DAYS, number)

    def test_spans_just_within_and_just_beyond(self):
        for span in ((0, 0), (60, 60), (0, 60), (59, 60), None):
            telling.between(LETTERS, [span] * 6)
        for span in ((-1, 0), (60, 61), (61, 61), (1, 0), (60, 59)):
            for at in range(6):
                spans = [None] * at + [span] + [None] * (5 - at)
                self.check_refused(errors.BadSpans, telling.between, LETTERS, spans)

    def test_gone_just_within_and_just_beyond(self):
        for gone in ([0] * 10, [60] * 10, [None] * 10):
            telling.handed_out(LETTERS, DAYS, gone)
        for gone in ([None] * 9, [None] * 11, [None] * 9 + [61], [-1] + [None] * 9, [None] * 6):
            self.check_refused(errors.BadGone, telling.handed_out, LETTERS, DAYS, gone)


class TestKeeper(Refusals):
    def setUp(self):
        self.keeper = Keeper()
        for place in range(3):
            self.keeper.put(good_letter(place))
        self.keeper.put(([3], [("day", 0)]))
        self.keeper.put(([4], [("when", 4, 0)]))
        self.keeper.put(([5, 6], [("when", 3, 1)]))
        self.keeper.hand()
        self.keeper.take_back(4)
        self.keeper.tell(3, 1)
        self.keeper.leave(5, 2)
        self.before = state_of(self.keeper)

    def check_each(self, error, method, handed_in, at, bad):
        handed_in = list(handed_in)
        for turn, value in enumerate(bad):
            handed_in[at] = value
            with self.subTest(turn=turn):
                self.check_refused(error, method, *handed_in)
        self.assertEqual(state_of(self.keeper), self.before)

    def test_put(self):
        self.check_each(errors.BadLetter, self.keeper.put, [None], 0, bad_letters(6))

    def test_put_into_a_new_one(self):
        keeper = Keeper()
        for turn, letter in enumerate(bad_letters(0)):
            with self.subTest(turn=turn):
                self.check_refused(errors.BadLetter, keeper.put, letter)
        self.assertEqual(keeper.all_letters(), [])

    def test_change(self):
        numbers = bad_numbers(6) + [3, 4]
        for place in (0, 1, 2, 5):
            self.check_each(errors.BadLetter, self.keeper.change, [place, None], 1, bad_letters(place))
        for letter in [good_letter(0)] + bad_letters(0)[::100]:
            self.check_each(errors.BadNumber, self.keeper.change, [None, letter], 0, numbers)

    def test_take_back(self):
        self.check_each(errors.BadNumber, self.keeper.take_back, [None], 0, bad_numbers(6) + [3, 4])

    def test_tell(self):
        for day in [0, 1, 60] + bad_numbers(61):
            self.check_each(errors.BadHappening, self.keeper.tell, [None, day], 0, bad_numbers(6))
        for happening in range(6):
            self.check_each(errors.BadDay, self.keeper.tell, [happening, None], 1, bad_numbers(61))
        self.check_each(errors.Unlike, self.keeper.tell, [3, None], 1, [0, 2, 60])

    def test_leave(self):
        for day in [0, 2, 60] + bad_numbers(61):
            self.check_each(errors.BadPerson, self.keeper.leave, [None, day], 0, bad_numbers(10))
        for person in range(10):
            self.check_each(errors.BadDay, self.keeper.leave, [person, None], 1, bad_numbers(61))
        self.check_each(errors.Unlike, self.keeper.leave, [5, None], 1, [0, 1, 3, 60])

    def test_a_refused_day_is_not_told(self):
        for bad in bad_numbers(61):
            self.check_refused(errors.BadDay, self.keeper.tell, 0, bad)
            self.check_refused(errors.BadDay, self.keeper.leave, 0, bad)
        self.assertIs(self.keeper.tell(0, 5), True)
        self.assertIs(self.keeper.leave(0, 5), True)

    def test_put_when_there_are_forty(self):
        for turn in range(34):
            self.keeper.put(([0], [("day", 60)]))
        self.before = state_of(self.keeper)
        self.check_each(errors.BadLetter, self.keeper.put, [None], 0, bad_letters(40))
        self.check_each(errors.TooMany, self.keeper.put, [None], 0, [good_letter(at) for at in (0, 1, 39, 40)])


if __name__ == "__main__":
    unittest.main()
