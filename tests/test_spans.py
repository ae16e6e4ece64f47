"""Tests of happenings known by spans alone: points 6 and 7."""

import itertools
import unittest

from laterletters.answers import Ahead, Answer, Perhaps
from laterletters.errors import BadNumber, NoDay
from laterletters.telling import between, due_days, surely
from samples import NEVER, chance_of, day_by_chains, long_chain, some_letters, some_spans

LETTERS = [
    ([0], [("when", 0, 2)]),
    ([0], [("when", 1, 0)]),
    ([0], [("after", 0, 3), ("day", 9)]),
    ([0], [("when", 0, 2), ("when", 1, 0)]),
    ([0], [("day", 5)]),
    ([0], [("when", 2, 0)]),
]
SPANS = [(1, 4), (3, 10), None, None, None, (0, 60)]


def all_days(spans):
    """All days within the spans."""
    return itertools.product(*[[None] if span is None else range(span[0], span[1] + 1) for span in spans])


def ahead_by(letters, days, one, other):
    first, second = (day_by_chains(letters, days, number) for number in (one, other))
    return first < second or first == second and one < other


class TestBetween(unittest.TestCase):
    def test_the_least_and_the_most_day(self):
        self.assertEqual(between(LETTERS, SPANS), [(3, 6), (3, 10), (9, 9), (3, 10), (5, 5), None])

    def test_spans_of_one_day(self):
        spans = [(1, 1), (3, 3), (60, 60), None, None, None]
        self.assertEqual(between(LETTERS, spans), [(3, 3), (3, 3), (9, 9), (3, 3), (5, 5), (60, 60)])

    def test_what_never_comes(self):
        self.assertEqual(between(LETTERS, NEVER), [None, None, None, None, (5, 5), None])
        self.assertEqual(between([([0], [("day", 3), ("when", 4, 0)])], SPANS), [None])

    def test_days_0_and_60(self):
        letters = [([0], [("when", 0, 0)]), ([0], [("when", 5, 20)]), ([0], [("after", 1, 20)])]
        self.assertEqual(between(letters, [(0, 0), None, None, None, None, (0, 60)]), [(0, 0), (20, 80), (40, 100)])

    def test_the_latest_of_least_days_and_of_most_days(self):
        letters = [([0], [("when", 0, 0), ("when", 1, 0), ("day", 4)])]
        self.assertEqual(between(letters, [(1, 30), (6, 8), None, None, None, None]), [(6, 30)])
        self.assertEqual(between(letters, [(1, 2), (0, 3), None, None, None, None]), [(4, 4)])

    def test_forty_letters_in_one_chain(self):
        letters = long_chain(20, ("when", 5, 20))
        told = [(20 + 20 * number, 80 + 20 * number) for number in range(40)]
        self.assertEqual(between(letters, [None] * 5 + [(0, 60)]), told)

    def test_by_all_days(self):
        for seed in range(60):
            chance = chance_of(seed)
            letters = some_letters(chance, chance.randint(1, 6))
            spans = some_spans(chance, seed % 4, 2)
            found = [due_days(letters, list(days)) for days in all_days(spans)]
            expected = []
            for row in zip(*found):
                self.assertIs(None in row, set(row) == {None})
                expected.append(None if None in row else (min(row), max(row)))
            with self.subTest(seed=seed):
                self.assertEqual(between(letters, spans), expected)


class TestSurely(unittest.TestCase):
    def told(self, spans, one, other, letters=LETTERS):
        answer = surely(letters, spans, one, other)
        self.assertIs(answer.shows(letters, spans, one, other), True)
        return answer

    def is_ahead(self, spans, one, other, letters=LETTERS):
        answer = self.told(spans, one, other, letters)
        self.assertIn(type(answer), (Ahead, Perhaps))
        return isinstance(answer, Ahead)

    def test_surely_ahead(self):
        self.assertTrue(self.is_ahead(SPANS, 0, 2))
        self.assertTrue(self.is_ahead(SPANS, 4, 2))

    def test_perhaps_in_both_turns(self):
        self.assertFalse(self.is_ahead(SPANS, 0, 1))
        self.assertFalse(self.is_ahead(SPANS, 1, 0))

    def test_the_other_turn_of_one_surely_ahead(self):
        self.assertFalse(self.is_ahead(SPANS, 2, 0))
        self.assertFalse(self.is_ahead(SPANS, 2, 4))

    def test_maybe_on_the_same_day_places_decide(self):
        letters = [([0], [("when", 0, 0)]), ([0], [("day", 5)]), ([0], [("when", 0, 0)])]
        spans = [(1, 5)] + [None] * 5
        self.assertTrue(self.is_ahead(spans, 0, 1, letters))
        self.assertFalse(self.is_ahead(spans, 1, 0, letters))
        self.assertFalse(self.is_ahead(spans, 1, 2, letters))
        self.assertFalse(self.is_ahead(spans, 2, 1, letters))
        self.assertEqual(self.told(spans, 2, 1, letters).days, [5] + [None] * 5)
        self.assertTrue(self.is_ahead(spans, 0, 2, letters))
        self.assertFalse(self.is_ahead(spans, 2, 0, letters))
        spans = [(1, 6)] + [None] * 5
        self.assertFalse(self.is_ahead(spans, 0, 1, letters))
        spans = [(5, 9)] + [None] * 5
        self.assertTrue(self.is_ahead(spans, 1, 2, letters))
        self.assertFalse(self.is_ahead(spans, 1, 0, letters))

    def test_always_the_same_day(self):
        letters = [([0], [("when", 0, 1)]), ([0], [("after", 0, 0)])]
        spans = [(0, 60)] + [None] * 5
        self.assertTrue(self.is_ahead(spans, 0, 1, letters))
        self.assertFalse(self.is_ahead(spans, 1, 0, letters))

    def test_spans_that_lap_over_but_go_together(self):
        letters = [([0], [("when", 0, 3)]), ([0], [("when", 0, 2), ("day", 3)])]
        spans = [(1, 30)] + [None] * 5
        self.assertFalse(self.is_ahead(spans, 0, 1, letters))
        self.assertTrue(self.is_ahead(spans, 1, 0, letters))
        spans = [(0, 30)] + [None] * 5
        self.assertFalse(self.is_ahead(spans, 1, 0, letters))
        letters = [([0], [("when", 0, 3)]), ([0], [("when", 0, 2), ("day", 2)])]
        self.assertTrue(self.is_ahead(spans, 1, 0, letters))

    def test_each_of_the_last_days_is_tried(self):
        for happening in range(6):
            letters = [([0], [("when", k, 0) for k in range(6) if k == happening]), ([0], [("day", 5)])]
            spans = [(0, 6)] * 6
            days = self.told(spans, 0, 1, letters).days
            self.assertEqual(days[happening], 6)
            self.assertTrue(self.is_ahead(replaced_at(spans, happening, (0, 5)), 0, 1, letters))

    def test_others_early_while_one_is_late(self):
        letters = [([0], [("when", 0, 0)]), ([0], [("when", 1, 0), ("when", 0, 0)])]
        spans = [(0, 9), (3, 20)] + [None] * 4
        self.assertFalse(self.is_ahead(spans, 1, 0, letters))
        self.assertTrue(self.is_ahead(spans, 0, 1, letters))
        letters = [([0], [("when", 0, 0)]), ([0], [("when", 1, 0)])]
        self.assertFalse(self.is_ahead(spans, 0, 1, letters))

    def test_forty_letters_in_one_chain(self):
        letters = long_chain(1, ("when", 5, 20))
        spans = [None] * 5 + [(0, 60)]
        self.assertTrue(self.is_ahead(spans, 0, 39, letters))
        self.assertTrue(self.is_ahead(spans, 38, 39, letters))
        self.assertFalse(self.is_ahead(spans, 39, 0, letters))

    def test_two_that_are_one(self):
        for number in range(6):
            with self.assertRaises(BadNumber):
                surely(LETTERS, SPANS, number, number)

    def test_a_letter_without_a_day(self):
        for one, other in ((5, 0), (0, 5)):
            with self.assertRaises(NoDay):
                surely(LETTERS, SPANS, one, other)
        for one, other in ((4, 0), (0, 4), (1, 2), (5, 3)):
            with self.assertRaises(NoDay):
                surely(LETTERS, NEVER, one, other)


def replaced_at(spans, at, span):
    return spans[:at] + [span] + spans[at + 1:]


class TestShows(unittest.TestCase):
    def shows(self, days, one=0, other=1, spans=SPANS):
        return Perhaps(days).shows(LETTERS, spans, one, other)

    def test_days_by_which_it_is_not_ahead(self):
        self.assertIs(self.shows([4, 3, None, None, None, 0]), True)
        self.assertIs(self.shows([4, 5, None, None, None, 60]), True)
        self.assertIs(self.shows([1, 3, None, None, None, 0], 1, 0), True)
        self.assertIs(self.shows([1, 10, None, None, None, 0], 1, 0), True)

    def test_days_by_which_it_is_ahead(self):
        self.assertIs(self.shows([4, 6, None, None, None, 0]), False)
        self.assertIs(self.shows([1, 3, None, None, None, 0]), False)
        self.assertIs(self.shows([4, 5, None, None, None, 0], 1, 0), False)

    def test_days_that_are_not_one_for_each_span(self):
        good = [4, 3, None, None, None, 0]
        bad = [[], good[:1], good[:5], good[1:], good + [None], good + [0], good * 2, [None] * 6, [0] * 6, [60] * 6,
               good[::-1], good * 2000, [3, 4, None, None, None, None], [-4, -3, None, None, None, 0]]
        for at in range(6):
            for day in (-1, 61, 10 ** 40, -10 ** 40, 10 ** 5000, -10 ** 5000):
                bad.append(replaced_at(good, at, day))
        bad += [replaced_at(good, at, None) for at in (0, 1, 5)]
        bad += [replaced_at(good, at, day) for at in (2, 3, 4) for day in (0, 4)]
        bad += [replaced_at(good, 0, day) for day in (0, 5)] + [replaced_at(good, 1, day) for day in (2, 11)]
        for days in bad:
            for one, other in itertools.permutations(range(5), 2):
                self.assertIs(self.shows(days, one, other), False)

    def test_truths_are_no_days(self):
        self.assertIs(self.shows([4, 3, None, None, None, 1]), True)
        self.assertIs(self.shows([4, 3, None, None, None, True]), False)
        self.assertIs(self.shows([4, 3, None, None, None, False]), False)

    def test_the_first_and_the_last_day_of_a_span_are_within(self):
        for day, truth in ((0, False), (1, True), (4, True), (5, False)):
            self.assertIs(self.shows([day, 3, None, None, None, 0], 2, 0), truth)

    def test_by_the_field_as_it_stands_then(self):
        answer = Perhaps([])
        self.assertIs(answer.shows(LETTERS, SPANS, 0, 1), False)
        answer.days.extend([4, 3, None, None, None, 0])
        self.assertIs(answer.shows(LETTERS, SPANS, 0, 1), True)
        answer.days[1] = 6
        self.assertIs(answer.shows(LETTERS, SPANS, 0, 1), False)
        answer.days = [4, 4, None, None, None, 0]
        self.assertIs(answer.shows(LETTERS, SPANS, 0, 1), True)
        told = surely(LETTERS, SPANS, 0, 1)
        told.days.append(None)
        self.assertIs(told.shows(LETTERS, SPANS, 0, 1), False)

    def test_ahead_shows_or_does_not(self):
        self.assertIs(Ahead().shows(LETTERS, SPANS, 0, 2), True)
        self.assertIs(Ahead().shows(LETTERS, SPANS, 2, 0), False)
        self.assertIs(Ahead().shows(LETTERS, SPANS, 0, 1), False)
        self.assertIs(Ahead().shows(LETTERS, SPANS, 1, 0), False)


class TestByChance(unittest.TestCase):
    def check_pair(self, letters, spans, one, other):
        truths = {days: ahead_by(letters, days, one, other) for days in all_days(spans)}
        sure = all(truths.values())
        answer = surely(letters, spans, one, other)
        self.assertIsInstance(answer, Answer)
        self.assertIs(type(answer), Ahead if sure else Perhaps)
        self.assertIs(answer.shows(letters, spans, one, other), True)
        self.assertIs(Ahead().shows(letters, spans, one, other), sure)
        if not sure:
            self.assertIs(truths[tuple(answer.days)], False)
        for days, truth in truths.items():
            self.assertIs(Perhaps(list(days)).shows(letters, spans, one, other), not truth)

    def test_the_same_as_by_all_days(self):
        for seed in range(80):
            chance = chance_of(seed)
            letters = some_letters(chance, chance.randint(2, 5))
            spans = some_spans(chance, 2 + seed % 5, 1 + seed % 3)
            if sum(span is not None and span[0] != span[1] for span in spans) > 3:
                spans = [span if at < 3 else None for at, span in enumerate(spans)]
            with_days = [number for number, pair in enumerate(between(letters, spans)) if pair is not None]
            for one, other in itertools.permutations(with_days, 2):
                with self.subTest(seed=seed, one=one, other=other):
                    self.check_pair(letters, spans, one, other)


if __name__ == "__main__":
    unittest.main()
