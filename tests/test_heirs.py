"""Tests of what is handed out, in order, and to whom: point 5."""

import unittest

from laterletters.telling import handed_out
from samples import ALL_STAY, NEVER, chance_of, day_by_chains, long_chain, some_days, some_letters


def gone(**days):
    """For each person from which day on it is gone: gone(p3=7)."""
    return [days.get("p" + str(person)) for person in range(10)]


class TestHeirs(unittest.TestCase):
    def heir(self, heirs, day, told):
        handed = handed_out([(heirs, [("day", day)])], NEVER, told)
        self.assertEqual([row[:2] for row in handed], [(day, 0)])
        return handed[0][2]

    def test_the_first_heir(self):
        for heirs in ([4], [9, 0], [0, 9], [7, 3, 5]):
            self.assertEqual(self.heir(heirs, 5, ALL_STAY), heirs[0])

    def test_gone_ahead_of_the_day_on_it_and_behind_it(self):
        self.assertEqual(self.heir([4, 2], 5, gone(p4=4)), 2)
        self.assertEqual(self.heir([4, 2], 5, gone(p4=5)), 2)
        self.assertEqual(self.heir([4, 2], 5, gone(p4=6)), 4)

    def test_gone_from_day_0_and_from_day_60(self):
        self.assertEqual(self.heir([0, 9], 0, gone(p0=0)), 9)
        self.assertEqual(self.heir([9, 0], 60, gone(p9=60)), 0)
        self.assertEqual(self.heir([9, 0], 59, gone(p9=60)), 9)

    def test_all_gone(self):
        self.assertIsNone(self.heir([4], 5, gone(p4=5)))
        self.assertIsNone(self.heir([4, 2, 0], 5, gone(p4=5, p2=0, p0=4)))
        self.assertEqual(self.heir([4, 2, 0], 5, gone(p4=5, p2=0, p0=6)), 0)

    def test_others_who_are_gone_do_not_matter(self):
        self.assertEqual(self.heir([4], 5, gone(p0=0, p3=0, p5=0, p9=0)), 4)

    def test_by_the_letters_own_day(self):
        letters = [([1, 2], [("day", 3)]), ([1, 2], [("after", 0, 2)]), ([1, 2], [("after", 1, 20)])]
        self.assertEqual(handed_out(letters, NEVER, gone(p1=5, p2=25)), [(3, 0, 1), (5, 1, 2), (25, 2, None)])

    def test_beyond_day_60(self):
        letters = [([1, 2], [("when", 0, 20)])]
        self.assertEqual(handed_out(letters, [60] + [None] * 5, gone(p1=60)), [(80, 0, 2)])


class TestOrder(unittest.TestCase):
    def test_by_days_then_by_letters(self):
        letters = [([0], [("day", day)]) for day in (5, 3, 5, 0, 3, 60)]
        told = [(0, 3, 0), (3, 1, 0), (3, 4, 0), (5, 0, 0), (5, 2, 0), (60, 5, 0)]
        self.assertEqual(handed_out(letters, NEVER, ALL_STAY), told)

    def test_alike_days_whoever_gets_them(self):
        letters = [([heir], [("day", 5)]) for heir in (9, 0, 5)]
        self.assertEqual(handed_out(letters, NEVER, ALL_STAY), [(5, 0, 9), (5, 1, 0), (5, 2, 5)])
        self.assertEqual(handed_out(letters, NEVER, gone(p9=0, p5=0)), [(5, 0, None), (5, 1, 0), (5, 2, None)])

    def test_only_such_as_have_a_day(self):
        letters = [([0], [("when", 1, 0)]), ([1], [("day", 9)]), ([2], [("after", 0, 0)]), ([3], [("when", 2, 0)])]
        self.assertEqual(handed_out(letters, [None, None, 0, None, None, None], ALL_STAY), [(0, 3, 3), (9, 1, 1)])
        self.assertEqual(handed_out(letters[:1], NEVER, ALL_STAY), [])

    def test_forty_letters_in_one_chain(self):
        letters = long_chain(20, ("day", 60))
        told = [(60 + 20 * number, number, number % 10) for number in range(40)]
        self.assertEqual(handed_out(letters, NEVER, ALL_STAY), told)

    def test_more_than_nine_letters_stand_by_number(self):
        letters = [([0], [("day", 10 if number % 2 else 9)]) for number in range(12)]
        told = [(9, number, 0) for number in range(0, 12, 2)] + [(10, number, 0) for number in range(1, 12, 2)]
        self.assertEqual(handed_out(letters, NEVER, ALL_STAY), told)


class TestByChance(unittest.TestCase):
    def expected(self, letters, days, told):
        rows = []
        for number, (heirs, terms) in enumerate(letters):
            day = day_by_chains(letters, days, number)
            if day is not None:
                here = [heir for heir in heirs if told[heir] is None or told[heir] >= day + 1]
                rows.append((day, number, here[0] if here else None))
        rows.sort(key=lambda row: row[:2])
        return rows

    def test_the_same_as_counted_otherwise(self):
        for seed in range(200):
            chance = chance_of(seed)
            letters = some_letters(chance, chance.randint(1, 7))
            days = some_days(chance, 6, seed % 3)
            told = some_days(chance, 10, seed % 10)
            with self.subTest(seed=seed):
                self.assertEqual(handed_out(letters, days, told), self.expected(letters, days, told))


if __name__ == "__main__":
    unittest.main()
