"""Tests of why a letter is due, or for what it waits: point 4."""

import unittest

from laterletters.answers import Answer, Waits, Why
from laterletters.telling import due_days, why
from samples import (
    NEVER, all_chains, chance_of, day_by_chains, end_day, long_chain, some_days, some_letters,
)

LETTERS = [
    ([0], [("day", 4), ("when", 0, 2)]),
    ([1], [("after", 0, 3), ("day", 1)]),
    ([2], [("when", 1, 5), ("after", 1, 4)]),
    ([3], [("after", 2, 0), ("after", 0, 20), ("when", 2, 0)]),
]
DAYS = [2, 6, None, None, None, None]


class TestWhy(unittest.TestCase):
    def told(self, number, days=DAYS):
        answer = why(LETTERS, days, number)
        self.assertIs(answer.shows(LETTERS, days, number), True)
        return answer

    def test_a_term_of_its_own(self):
        answer = self.told(0)
        self.assertIs(type(answer), Why)
        self.assertIn(answer.chain, [[(0, 0)], [(0, 1)]])

    def test_over_letters(self):
        self.assertEqual(due_days(LETTERS, DAYS), [4, 7, 11, None])
        self.assertIn(self.told(1).chain, [[(1, 0), (0, 0)], [(1, 0), (0, 1)]])
        self.assertIn(self.told(2).chain, [[(2, 0)], [(2, 1), (1, 0), (0, 0)], [(2, 1), (1, 0), (0, 1)]])

    def test_only_one_term_gives_the_day(self):
        days = [1, 3, None, None, None, None]
        self.assertEqual(due_days(LETTERS, days), [4, 7, 11, None])
        self.assertEqual(self.told(2, days).chain, [(2, 1), (1, 0), (0, 0)])
        days = [9, 3, None, None, None, None]
        self.assertEqual(self.told(2, days).chain, [(2, 1), (1, 0), (0, 1)])
        days = [1, 40, None, None, None, None]
        self.assertEqual(self.told(2, days).chain, [(2, 0)])

    def test_forty_letters_in_one_chain(self):
        letters = long_chain(20, ("when", 5, 20))
        days = [None] * 5 + [60]
        answer = why(letters, days, 39)
        self.assertIs(type(answer), Why)
        self.assertEqual(answer.chain, [(number, 0) for number in range(39, -1, -1)])
        self.assertIs(answer.shows(letters, days, 39), True)
        self.assertIs(answer.shows(letters, NEVER, 39), False)
        self.assertIs(Waits(answer.chain).shows(letters, NEVER, 39), True)


class TestWaits(unittest.TestCase):
    def told(self, number, days):
        answer = why(LETTERS, days, number)
        self.assertIs(type(answer), Waits)
        self.assertIs(answer.shows(LETTERS, days, number), True)
        return answer.chain

    def test_for_a_happening_of_its_own(self):
        self.assertEqual(self.told(0, NEVER), [(0, 1)])
        self.assertEqual(self.told(3, DAYS), [(3, 2)])

    def test_over_letters(self):
        self.assertEqual(self.told(1, NEVER), [(1, 0), (0, 1)])
        self.assertEqual(self.told(2, [2] + [None] * 5), [(2, 0)])
        self.assertEqual(self.told(3, [2, None, 7] + [None] * 3), [(3, 0), (2, 0)])

    def test_forty_letters_in_one_chain(self):
        letters = long_chain(0, ("when", 0, 0))
        answer = why(letters, NEVER, 39)
        self.assertIs(type(answer), Waits)
        self.assertEqual(answer.chain, [(number, 0) for number in range(39, -1, -1)])


class TestShows(unittest.TestCase):
    def why_shows(self, chain, number, days=DAYS, letters=LETTERS):
        return Why(chain).shows(letters, days, number)

    def waits_shows(self, chain, number, days=DAYS, letters=LETTERS):
        return Waits(chain).shows(letters, days, number)

    def test_all_that_give_the_day(self):
        for chain in ([(2, 0)], [(2, 1), (1, 0), (0, 0)], [(2, 1), (1, 0), (0, 1)]):
            self.assertIs(self.why_shows(chain, 2), True)
            self.assertIs(self.waits_shows(chain, 2), False)

    def test_a_chain_that_gives_another_day(self):
        self.assertIs(self.why_shows([(1, 1)], 1), False)
        self.assertIs(self.why_shows([(2, 1), (1, 1)], 2), False)

    def test_not_of_other_days_letters_or_numbers(self):
        chain = [(1, 0), (0, 0)]
        self.assertIs(self.why_shows(chain, 1), True)
        self.assertIs(self.why_shows(chain, 1, days=[3] + [None] * 5), False)
        self.assertIs(self.why_shows(chain, 1, days=NEVER), False)
        for number in (0, 2, 3):
            self.assertIs(self.why_shows(chain, number), False)
        other = [LETTERS[0], ([1], [("after", 0, 3), ("day", 8)])]
        self.assertIs(self.why_shows(chain, 1, letters=other), False)
        other = [LETTERS[0], ([1], [("day", 7), ("after", 0, 3)])]
        self.assertIs(self.why_shows(chain, 1, letters=other), False)

    def test_a_letter_that_waits_has_no_why(self):
        for chain in ([(3, 2)], [(3, 0), (2, 0)], [(3, 1), (0, 0)], [(3, 0), (2, 1), (1, 0), (0, 1)]):
            self.assertIs(self.why_shows(chain, 3), False)
        self.assertIs(self.waits_shows([(3, 2)], 3), True)
        self.assertIs(self.waits_shows([(3, 1), (0, 1)], 3), False)

    def test_a_day_told_is_never_waited_for(self):
        self.assertIs(self.waits_shows([(0, 0)], 0, days=NEVER), False)
        self.assertIs(self.waits_shows([(1, 1)], 1, days=NEVER), False)
        self.assertIs(self.waits_shows([(0, 1)], 0, days=NEVER), True)
        self.assertIs(self.waits_shows([(0, 1)], 0, days=[0] + [None] * 5), False)

    def test_delays_on_the_way_count(self):
        letters = [([0], [("day", 5)]), ([0], [("after", 0, 3), ("day", 5), ("day", 8)])]
        for chain, truth in (([(1, 0), (0, 0)], True), ([(1, 1)], False), ([(1, 2)], True)):
            self.assertIs(self.why_shows(chain, 1, letters=letters), truth)
        letters = [([0], [("when", 0, 3)]), ([0], [("after", 0, 2), ("when", 0, 5), ("when", 0, 4)])]
        for chain, truth in (([(1, 0), (0, 0)], True), ([(1, 1)], True), ([(1, 2)], False)):
            self.assertIs(self.why_shows(chain, 1, letters=letters), truth)

    def test_chains_that_are_none(self):
        good = [(2, 1), (1, 0), (0, 0)]
        far = 10 ** 40
        chains = [
            [], good[:1], good[:2], good[1:], good[2:], good[::-1], good + good[-1:], good + [(0, 1)], good * 2,
            good[:1] + good, [good[0], good[2]], [(2, 1), (0, 0)], [(2, 1), (1, 0), (1, 0), (0, 0)],
            good + [(-1, 0)], good + [(far, far)], [(0, 0), (2, 1), (1, 0)], [(1, 0), (2, 1), (0, 0)],
        ]
        for at in range(3):
            number, place = good[at]
            for other in (number + 1, number - 4, number + 4, -number - 1, far, -far, 10 ** 5000, -10 ** 5000):
                chains.append(good[:at] + [(other, place)] + good[at + 1:])
            for other in (place + 2, place - 2, -place - 1, far, -far, 10 ** 5000, -10 ** 5000):
                chains.append(good[:at] + [(number, other)] + good[at + 1:])
        for chain in chains:
            for days in (DAYS, NEVER, [2, None, None, None, None, None]):
                for number in range(4):
                    for answer in (Why(chain), Waits(chain)):
                        truth = answer.shows(LETTERS, days, number)
                        self.assertIs(type(truth), bool)
                        is_one = chain in [told for told, last, delays in all_chains(LETTERS, number)]
                        if not is_one:
                            self.assertIs(truth, False, (chain[:4], number))
        for days in (DAYS, NEVER):
            for number in (2, 3):
                self.assertFalse(any(Why(chain).shows(LETTERS, days, number) for chain in chains))

    def test_very_long_ones(self):
        for chain in ([(2, 1)] * 10000, [(2, 1), (1, 0), (0, 0)] * 5000, [(0, 0)] * 10000, [(-1, -1)] * 10000):
            for number in range(4):
                self.assertIs(Why(chain).shows(LETTERS, DAYS, number), False)
                self.assertIs(Waits(chain).shows(LETTERS, NEVER, number), False)

    def test_places_below_0_do_not_count_from_the_end(self):
        letters = [([0], [("when", 0, 2)])]
        for link in ((0, -1), (-1, 0), (-1, -1), (0, 1), (1, 0)):
            self.assertIs(self.why_shows([link], 0, letters=letters), False)
            self.assertIs(self.waits_shows([link], 0, days=NEVER, letters=letters), False)

    def test_truths_are_no_numbers_in_a_chain(self):
        self.assertIs(self.why_shows([(False, False)], 0), False)
        self.assertIs(self.waits_shows([(0, True)], 0, days=NEVER), False)
        self.assertIs(self.waits_shows([(0, 1)], 0, days=NEVER), True)

    def test_links_that_are_no_pairs(self):
        for link in ([0, 1], (0, 1, 0), (0,), (), 0, None, "01", (None, 1), (0, None), ("0", "1"), ((0, 1),)):
            self.assertIs(self.why_shows([link], 0), False)
            self.assertIs(self.waits_shows([link], 0, days=NEVER), False)

    def test_by_the_field_as_it_stands_then(self):
        for made, days, good in ((Why, DAYS, (0, 1)), (Waits, NEVER, (0, 1))):
            answer = made([])
            self.assertIs(answer.shows(LETTERS, days, 1), False)
            answer.chain.append((1, 0))
            self.assertIs(answer.shows(LETTERS, days, 1), False)
            answer.chain.append(good)
            self.assertIs(answer.shows(LETTERS, days, 1), True)
            answer.chain = [good]
            self.assertIs(answer.shows(LETTERS, days, 1), False)
            self.assertIs(answer.shows(LETTERS, days, 0), True)
            answer.chain.append(good)
            self.assertIs(answer.shows(LETTERS, days, 0), False)
        told = why(LETTERS, DAYS, 2)
        told.chain[:] = [(2, 1)]
        self.assertIs(told.shows(LETTERS, DAYS, 2), False)

    def test_shows_changes_nothing(self):
        answer = Why([(2, 1), (1, 0), (0, 0)])
        answer.shows(LETTERS, DAYS, 2)
        self.assertEqual(answer.chain, [(2, 1), (1, 0), (0, 0)])


class TestByChance(unittest.TestCase):
    def check(self, letters, days):
        for number in range(len(letters)):
            due = day_by_chains(letters, days, number)
            answer = why(letters, days, number)
            self.assertIsInstance(answer, Answer)
            self.assertIs(type(answer), Waits if due is None else Why)
            self.assertIs(answer.shows(letters, days, number), True)
            self.assertIn(answer.chain, [chain for chain, last, delays in all_chains(letters, number)])
            for asked in range(len(letters)):
                self.check_chains(letters, days, number, asked)

    def check_chains(self, letters, days, number, asked):
        due = day_by_chains(letters, days, asked)
        for chain, last, delays in all_chains(letters, number):
            day = end_day(last, days)
            gives = number == asked and day is not None and day + delays == due
            self.assertIs(Why(chain).shows(letters, days, asked), gives)
            self.assertIs(Waits(chain).shows(letters, days, asked), number == asked and day is None)

    def test_every_chain_of_every_letter(self):
        for seed in range(150):
            chance = chance_of(seed)
            letters = some_letters(chance, chance.randint(1, 5))
            with self.subTest(seed=seed):
                self.check(letters, some_days(chance, 6, seed % 4))


if __name__ == "__main__":
    unittest.main()
