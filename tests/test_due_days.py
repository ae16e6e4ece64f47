"""Tests of letters, happenings and days: points 2 and 3."""

import unittest

from laterletters.errors import BadDays, BadLetters
from laterletters.telling import due_days
from samples import NEVER, chance_of, day_by_chains, long_chain, some_days, some_letters


def letter(*terms):
    return ([0], list(terms))


class TestTerms(unittest.TestCase):
    def test_a_day_told(self):
        self.assertEqual(due_days([letter(("day", 7))], NEVER), [7])

    def test_a_happening_and_a_delay(self):
        days = [3, None, 5, None, None, 9]
        letters = [letter(("when", 0, 4)), letter(("when", 2, 0)), letter(("when", 5, 20))]
        self.assertEqual(due_days(letters, days), [7, 5, 29])

    def test_a_happening_that_did_not_come(self):
        days = [3, None, 5, None, None, 9]
        self.assertEqual(due_days([letter(("when", 1, 4)), letter(("when", 4, 0))], days), [None, None])

    def test_a_happening_on_day_0_came(self):
        self.assertEqual(due_days([letter(("when", 1, 0)), letter(("when", 1, 2))], [None, 0] + [None] * 4), [0, 2])

    def test_a_letter_and_a_delay(self):
        letters = [letter(("day", 7)), letter(("after", 0, 3)), letter(("after", 0, 0)), letter(("after", 1, 5))]
        self.assertEqual(due_days(letters, NEVER), [7, 10, 7, 15])

    def test_a_letter_that_has_no_day(self):
        letters = [letter(("when", 3, 0)), letter(("after", 0, 3)), letter(("after", 1, 0)), letter(("day", 2))]
        self.assertEqual(due_days(letters, NEVER), [None, None, None, 2])

    def test_the_latest_of_several_in_any_turn(self):
        terms = [("day", 8), ("when", 0, 4), ("after", 0, 2)]
        first = letter(("day", 5))
        days = [3] + [None] * 5
        for turned in [terms, terms[::-1], terms[1:] + terms[:1]]:
            self.assertEqual(due_days([first, letter(*turned)], days), [5, 8])
        self.assertEqual(due_days([first, letter(*terms)], [9] + [None] * 5), [5, 13])
        self.assertEqual(due_days([letter(("day", 30)), letter(*terms)], days), [30, 32])

    def test_none_if_one_of_several_has_none(self):
        terms = [("day", 8), ("when", 0, 4), ("when", 1, 0), ("day", 60)]
        for turned in [terms, terms[::-1], terms[2:] + terms[:2]]:
            self.assertEqual(due_days([letter(*turned)], [3] + [None] * 5), [None])
            self.assertEqual(due_days([letter(*turned)], [3, 2] + [None] * 4), [60])

    def test_the_same_term_twice(self):
        self.assertEqual(due_days([letter(("day", 8), ("day", 8))], NEVER), [8])


class TestEdges(unittest.TestCase):
    def test_days_0_and_60(self):
        self.assertEqual(due_days([letter(("day", 0)), letter(("day", 60))], NEVER), [0, 60])
        self.assertEqual(due_days([letter(("when", 0, 0)), letter(("when", 5, 0))], [0] + [None] * 4 + [60]), [0, 60])

    def test_days_beyond_60_by_delays(self):
        self.assertEqual(due_days([letter(("when", 5, 20)), letter(("after", 0, 20))], [None] * 5 + [60]), [80, 100])

    def test_forty_letters_in_one_chain(self):
        self.assertEqual(due_days(long_chain(20, ("day", 60)), NEVER), [60 + 20 * k for k in range(40)])
        self.assertEqual(due_days(long_chain(0, ("when", 5, 1)), [None] * 5 + [2]), [3] * 40)
        self.assertEqual(due_days(long_chain(1, ("when", 5, 1)), NEVER), [None] * 40)

    def test_forty_letters_with_four_ways_to_each(self):
        letters = [letter(("day", 0))] + [letter(*[("after", k - 1, d) for d in (1, 0, 2, 1)]) for k in range(1, 40)]
        self.assertEqual(due_days(letters, NEVER), [2 * k for k in range(40)])

    def test_one_and_forty_letters(self):
        self.assertEqual(due_days([letter(("day", 1))], NEVER), [1])
        self.assertEqual(due_days([letter(("day", 1))] * 40, NEVER), [1] * 40)
        for many in (0, 41, 80):
            with self.assertRaises(BadLetters):
                due_days([letter(("day", 1))] * many, NEVER)

    def test_one_and_three_heirs_people_0_and_9(self):
        for heirs in ([0], [9], [9, 0], [0, 9, 5], [7, 8, 9]):
            self.assertEqual(due_days([(heirs, [("day", 1)])], NEVER), [1])
        for heirs in ([], [0, 1, 2, 3], [10], [-1], [0, 10], [5, 5], [1, 2, 1]):
            with self.assertRaises(BadLetters):
                due_days([(heirs, [("day", 1)])], NEVER)

    def test_one_and_four_terms(self):
        self.assertEqual(due_days([letter(("day", 1), ("day", 2), ("day", 4), ("day", 3))], NEVER), [4])
        for many in (0, 5, 8):
            with self.assertRaises(BadLetters):
                due_days([letter(*[("day", 1)] * many)], NEVER)

    def test_happenings_0_and_5_delays_0_and_20(self):
        days = [1, 2, 3, 4, 5, 6]
        self.assertEqual(due_days([letter(("when", 0, 0)), letter(("when", 5, 20))], days), [1, 26])
        for term in [("when", 6, 0), ("when", -1, 0), ("when", 0, 21), ("when", 0, -1), ("day", 61), ("day", -1),
                     ("after", 0, 21), ("after", 0, -1)]:
            with self.assertRaises(BadLetters):
                due_days([letter(("day", 0)), letter(term)], days)

    def test_only_earlier_letters_of_the_list(self):
        first = letter(("day", 0))
        for place in (1, 2, 5, 39):
            letters = [first] * place
            self.assertEqual(due_days(letters + [letter(("after", place - 1, 3))], NEVER)[place], 3)
            for number in (-1, place, place + 1, 40):
                with self.assertRaises(BadLetters):
                    due_days(letters + [letter(("after", number, 3))], NEVER)
        with self.assertRaises(BadLetters):
            due_days([letter(("after", 0, 3))], NEVER)
        with self.assertRaises(BadLetters):
            due_days([letter(("after", 1, 3)), first], NEVER)

    def test_six_days_of_happenings(self):
        letters = [letter(("day", 1))]
        self.assertEqual(due_days(letters, [0, 60, None, 1, 59, 0]), [1])
        for days in ([None] * 5, [None] * 7, [0] * 5, [0] * 7, [], [61] + [None] * 5, [None] * 5 + [-1]):
            with self.assertRaises(BadDays):
                due_days(letters, days)


class TestByChance(unittest.TestCase):
    def test_the_same_as_over_all_chains(self):
        for seed in range(400):
            chance = chance_of(seed)
            letters = some_letters(chance, chance.randint(1, 8))
            days = some_days(chance, 6, seed % 4)
            expected = [day_by_chains(letters, days, number) for number in range(len(letters))]
            with self.subTest(seed=seed):
                self.assertEqual(due_days(letters, days), expected)


if __name__ == "__main__":
    unittest.main()
