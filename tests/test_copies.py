"""Tests that nothing handed in is changed or kept, that what is told is new, and of which kind it is: point 1."""

import copy
import unittest

from laterletters.answers import Ahead, Perhaps, Waits, Why
from laterletters.keepers import Keeper
from laterletters.telling import between, due_days, handed_out, surely, why
from samples import chance_of, some_days, some_letters, some_spans

LETTERS = [([0, 1], [("day", 2), ("when", 1, 0)]), ([1, 2], [("after", 0, 3)]), ([9], [("when", 0, 0)])]
DAYS = [None, 3, None, None, 60, 1]
GONE = [None, 0, 60, None, None, 3, None, None, None, 9]
SPANS = [None, (0, 60), (3, 3), None, None, (0, 1)]


def handed_in():
    """Lists of their own, also those within."""
    return copy.deepcopy((LETTERS, DAYS, GONE, SPANS))


def spoil(letters, *others):
    """Change all that can be changed in what was handed in."""
    for heirs, terms in letters:
        heirs[:] = [7]
        terms[:] = [("day", 50)]
    letters.reverse()
    for several in others:
        several[:] = several[::-1] + [None, 1]


class TestHandedIn(unittest.TestCase):
    def test_nothing_is_changed(self):
        letters, days, gone, spans = handed_in()
        due_days(letters, days)
        handed_out(letters, days, gone)
        between(letters, spans)
        for number in range(3):
            why(letters, days, number).shows(letters, days, number)
        for one, other in ((0, 1), (1, 0)):
            answer = surely(letters, spans, one, other)
            answer.shows(letters, spans, one, other)
            Ahead().shows(letters, spans, one, other)
            Perhaps([1] * 6).shows(letters, spans, one, other)
        self.assertEqual((letters, days, gone, spans), (LETTERS, DAYS, GONE, SPANS))

    def test_nothing_is_kept_in_what_is_told(self):
        letters, days, gone, spans = handed_in()
        told = [due_days(letters, days), handed_out(letters, days, gone), between(letters, spans)]
        chains = [why(letters, days, number) for number in range(3)]
        perhaps = surely(letters, spans, 1, 0)
        before = copy.deepcopy((told, [answer.chain for answer in chains], perhaps.days))
        spoil(letters, days, gone, spans)
        self.assertEqual((told, [answer.chain for answer in chains], perhaps.days), before)
        for number, answer in enumerate(chains):
            self.assertIs(answer.shows(LETTERS, DAYS, number), True)
        self.assertIs(perhaps.shows(LETTERS, SPANS, 1, 0), True)

    def test_lists_of_answers_made_by_hand_are_copied(self):
        for made in (Why, Waits):
            chain = [(0, 0)]
            answer = made(chain)
            chain.append((1, 1))
            self.assertEqual(answer.chain, [(0, 0)])
            answer.chain.append((2, 2))
            self.assertEqual(chain, [(0, 0), (1, 1)])
        days = [1, None]
        answer = Perhaps(days)
        days.append(2)
        self.assertEqual(answer.days, [1, None])
        answer.days.append(3)
        self.assertEqual(days, [1, None, 2])

    def test_a_keeper_keeps_letters_of_its_own(self):
        letters = handed_in()[0]
        keeper = Keeper()
        for letter in letters:
            keeper.put(letter)
        self.assertEqual(letters, LETTERS)
        spoil(letters)
        self.assertEqual(keeper.all_letters(), LETTERS)
        new = ([5, 6], [("day", 1)])
        keeper.change(1, new)
        self.assertEqual(new, ([5, 6], [("day", 1)]))
        spoil([new])
        self.assertEqual(keeper.all_letters()[1], ([5, 6], [("day", 1)]))
        self.assertEqual(keeper.due_by_now(), [None, 1, None])

    def test_one_letter_put_twice_is_two(self):
        letter = ([5, 6], [("day", 0)])
        keeper = Keeper()
        keeper.put(letter)
        keeper.put(letter)
        keeper.all_letters()[0][0].clear()
        keeper.change(0, ([1], [("day", 0)]))
        self.assertEqual(keeper.all_letters(), [([1], [("day", 0)]), ([5, 6], [("day", 0)])])


class TestTold(unittest.TestCase):
    def check_new(self, tell):
        first = tell()
        before = copy.deepcopy(first)
        self.assertIsNot(first, tell())
        first.clear()
        self.assertEqual(tell(), before)
        tell().append("spoilt")
        self.assertEqual(tell(), before)

    def test_what_is_told_is_new_at_each_call(self):
        self.check_new(lambda: due_days(LETTERS, DAYS))
        self.check_new(lambda: handed_out(LETTERS, DAYS, GONE))
        self.check_new(lambda: between(LETTERS, SPANS))

    def test_fields_of_answers_are_new_at_each_call(self):
        for number in range(3):
            self.check_new(lambda: why(LETTERS, DAYS, number).chain)
            self.assertIsNot(why(LETTERS, DAYS, number), why(LETTERS, DAYS, number))
        self.check_new(lambda: surely(LETTERS, SPANS, 1, 0).days)
        self.assertIsNot(surely(LETTERS, SPANS, 0, 1), surely(LETTERS, SPANS, 0, 1))

    def test_what_a_keeper_tells_is_new_at_each_call(self):
        keeper = Keeper()
        for letter in LETTERS:
            keeper.put(letter)
        keeper.tell(1, 0)
        for tell in (keeper.kept, keeper.all_letters, keeper.due_by_now):
            self.check_new(tell)
        for heirs, terms in keeper.all_letters():
            heirs[0] = 8
            terms.append(("day", 60))
        self.assertEqual(keeper.all_letters(), LETTERS)
        self.assertEqual(keeper.due_by_now(), [2, 5, None])

    def test_what_is_handed_is_new_at_each_call(self):
        keeper = Keeper()
        keeper.put(([3], [("day", 0)]))
        first = keeper.hand()
        first.append("spoilt")
        self.assertEqual(keeper.hand(), [])
        keeper.hand().append("spoilt")
        keeper.put(([3], [("day", 0)]))
        self.assertEqual(keeper.hand(), [(1, 3, 0)])


class TestKinds(unittest.TestCase):
    def check_number(self, value):
        self.assertIs(type(value), int)

    def check_number_or_none(self, value):
        self.assertIn(type(value), (int, type(None)))

    def check_rows(self, rows, many, *checks):
        self.assertIs(type(rows), list)
        for row in rows:
            self.assertIs(type(row), tuple)
            self.assertEqual(len(row), many)
            for check, value in zip(checks, row):
                check(value)

    def check_list(self, several, check):
        self.assertIs(type(several), list)
        for value in several:
            check(value)

    def test_what_the_functions_tell(self):
        number, or_none = self.check_number, self.check_number_or_none
        for seed in range(60):
            chance = chance_of(seed)
            letters = some_letters(chance, 5)
            days, spans = some_days(chance, 6, 2), some_spans(chance, 2, 3)
            self.check_list(due_days(letters, days), or_none)
            self.check_rows(handed_out(letters, days, some_days(chance, 10, 5)), 3, number, number, or_none)
            least_and_most = between(letters, spans)
            self.assertIs(type(least_and_most), list)
            self.check_rows([row for row in least_and_most if row is not None], 2, number, number)
            for at in range(5):
                self.check_rows(why(letters, days, at).chain, 2, number, number)
            with_days = [at for at, row in enumerate(least_and_most) if row is not None]
            for one, other in zip(with_days, with_days[1:]):
                answer = surely(letters, spans, other, one)
                if isinstance(answer, Perhaps):
                    self.check_list(answer.days, or_none)

    def test_what_a_keeper_tells(self):
        keeper = Keeper()
        self.check_number(keeper.put(([3, 4], [("day", 0)])))
        self.check_number(keeper.put(([3], [("when", 0, 0)])))
        self.check_number(keeper.put(([3], [("when", 0, 9), ("after", 1, 2)])))
        self.assertIs(keeper.tell(0, 1), True)
        self.assertIs(keeper.tell(0, 1), False)
        self.assertIs(keeper.leave(3, 1), True)
        self.assertIs(keeper.leave(3, 1), False)
        self.check_number(keeper.pass_day())
        self.check_rows(keeper.hand(), 3, self.check_number, self.check_number_or_none, self.check_number)
        self.assertIsNone(keeper.change(2, ([1], [("day", 1)])))
        self.assertIsNone(keeper.take_back(2))
        self.check_list(keeper.kept(), self.check_number)
        self.check_list(keeper.due_by_now(), self.check_number_or_none)
        for heirs, terms in keeper.all_letters():
            self.check_list(heirs, self.check_number)
            self.assertIs(type(terms), list)
            for term in terms:
                self.assertIs(type(term), tuple)
        self.check_rows(keeper.all_letters(), 2)


if __name__ == "__main__":
    unittest.main()
