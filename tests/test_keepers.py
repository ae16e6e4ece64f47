"""Tests of the keeper: points 8 and 9."""

import unittest

from laterletters.errors import BadLetter, BadNumber, TooMany, Unlike
from laterletters.keepers import Keeper
from samples import chance_of, some_term, state_of


def letter(*terms, heirs=(0,)):
    return (list(heirs), list(terms))


def keeper_with(*letters):
    keeper = Keeper()
    for one in letters:
        keeper.put(one)
    return keeper


def pass_to(keeper, day):
    while keeper.pass_day() < day:
        pass


class TestPut(unittest.TestCase):
    def test_a_new_keeper(self):
        keeper = Keeper()
        self.assertEqual(keeper.kept(), [])
        self.assertEqual(keeper.all_letters(), [])
        self.assertEqual(keeper.due_by_now(), [])
        self.assertEqual(keeper.hand(), [])

    def test_numbers_from_0_on(self):
        keeper = Keeper()
        self.assertEqual([keeper.put(letter(("day", 3))) for turn in range(3)], [0, 1, 2])
        self.assertEqual(keeper.kept(), [0, 1, 2])

    def test_letters_as_they_came(self):
        letters = [([3, 0], [("day", 3)]), ([9], [("after", 0, 20), ("when", 5, 0)])]
        keeper = keeper_with(*letters)
        self.assertEqual(keeper.all_letters(), letters)

    def test_only_behind_such_as_came_ahead(self):
        keeper = Keeper()
        with self.assertRaises(BadLetter):
            keeper.put(letter(("after", 0, 0)))
        keeper.put(letter(("day", 3)))
        with self.assertRaises(BadLetter):
            keeper.put(letter(("after", 1, 0)))
        self.assertEqual(keeper.put(letter(("after", 0, 0))), 1)

    def test_behind_such_as_are_kept_no_more(self):
        keeper = keeper_with(letter(("day", 0)), letter(("day", 0)))
        keeper.take_back(1)
        self.assertEqual(keeper.hand(), [(0, 0, 0)])
        self.assertEqual(keeper.put(letter(("after", 0, 4))), 2)
        self.assertEqual(keeper.put(letter(("after", 1, 4))), 3)
        self.assertEqual(keeper.due_by_now(), [0, None, 4, None])

    def test_at_most_forty(self):
        keeper = keeper_with(*[letter(("day", 60))] * 39)
        self.assertEqual(keeper.put(letter(("after", 38, 20))), 39)
        before = state_of(keeper)
        with self.assertRaises(TooMany):
            keeper.put(letter(("day", 60)))
        with self.assertRaises(TooMany):
            keeper.put(letter(("after", 39, 0)))
        self.assertEqual(state_of(keeper), before)

    def test_those_taken_back_and_handed_out_are_counted(self):
        keeper = keeper_with(*[letter(("day", 0))] * 20, *[letter(("day", 60))] * 20)
        self.assertEqual(len(keeper.hand()), 20)
        for number in range(20, 40):
            keeper.take_back(number)
        self.assertEqual(keeper.kept(), [])
        with self.assertRaises(TooMany):
            keeper.put(letter(("day", 60)))
        self.assertEqual(len(keeper.all_letters()), 40)

    def test_changed_ones_are_not_counted_anew(self):
        keeper = keeper_with(letter(("day", 3)))
        for turn in range(50):
            keeper.change(0, letter(("day", turn)))
        self.assertEqual(keeper.put(letter(("day", 3))), 1)

    def test_what_is_no_letter_is_told_ahead_of_too_many(self):
        keeper = keeper_with(*[letter(("day", 60))] * 40)
        for bad in (letter(("day", 61)), letter(("after", 40, 0)), None):
            with self.assertRaises(BadLetter):
                keeper.put(bad)


class TestChange(unittest.TestCase):
    def test_another_letter_by_the_same_number(self):
        keeper = keeper_with(letter(("day", 3)), letter(("after", 0, 1)))
        self.assertIsNone(keeper.change(0, ([7, 8], [("when", 2, 0)])))
        self.assertEqual(keeper.all_letters(), [([7, 8], [("when", 2, 0)]), ([0], [("after", 0, 1)])])
        self.assertEqual(keeper.due_by_now(), [None, None])
        keeper.change(0, letter(("day", 9)))
        self.assertEqual(keeper.due_by_now(), [9, 10])
        self.assertEqual(keeper.kept(), [0, 1])

    def test_only_behind_letters_ahead_of_its_place(self):
        keeper = keeper_with(*[letter(("day", 3))] * 4)
        for number in (2, 3, 4, -1):
            with self.assertRaises(BadLetter):
                keeper.change(2, letter(("after", number, 0)))
        keeper.change(2, letter(("after", 1, 1), ("after", 0, 5)))
        self.assertEqual(keeper.due_by_now(), [3, 3, 8, 3])
        with self.assertRaises(BadLetter):
            keeper.change(0, letter(("after", 0, 0)))

    def test_behind_such_as_are_kept_no_more(self):
        keeper = keeper_with(letter(("day", 0)), letter(("day", 1)), letter(("day", 2)))
        keeper.hand()
        keeper.take_back(1)
        keeper.change(2, letter(("after", 0, 7)))
        self.assertEqual(keeper.due_by_now(), [0, None, 7])
        keeper.change(2, letter(("after", 1, 7)))
        self.assertEqual(keeper.due_by_now(), [0, None, None])

    def test_none_that_is_kept(self):
        keeper = keeper_with(letter(("day", 0)), letter(("day", 1)), letter(("day", 2)))
        keeper.hand()
        keeper.take_back(1)
        before = state_of(keeper)
        for number in (0, 1, 3, -1, 40):
            with self.assertRaises(BadNumber):
                keeper.change(number, letter(("day", 5)))
            with self.assertRaises(BadNumber):
                keeper.change(number, None)
        self.assertEqual(state_of(keeper), before)

    def test_changed_to_a_day_gone_by(self):
        keeper = keeper_with(letter(("day", 9)))
        pass_to(keeper, 5)
        self.assertEqual(keeper.hand(), [])
        keeper.change(0, letter(("day", 2), heirs=[4]))
        self.assertEqual(keeper.hand(), [(0, 4, 3)])

    def test_due_but_not_yet_handed_out(self):
        keeper = keeper_with(letter(("day", 1)))
        pass_to(keeper, 5)
        keeper.change(0, letter(("day", 6)))
        self.assertEqual(keeper.hand(), [])


class TestTakeBack(unittest.TestCase):
    def test_kept_no_more_and_without_a_day(self):
        keeper = keeper_with(letter(("day", 0)), letter(("after", 0, 0)), letter(("after", 1, 0)), letter(("day", 0)))
        self.assertIsNone(keeper.take_back(0))
        self.assertEqual(keeper.kept(), [1, 2, 3])
        self.assertEqual(keeper.due_by_now(), [None, None, None, 0])
        self.assertEqual(keeper.hand(), [(3, 0, 0)])
        self.assertEqual(len(keeper.all_letters()), 4)
        self.assertEqual(keeper.all_letters()[0], ([0], [("day", 0)]))

    def test_none_that_is_kept(self):
        keeper = keeper_with(letter(("day", 0)), letter(("day", 1)), letter(("day", 2)))
        keeper.hand()
        keeper.take_back(1)
        before = state_of(keeper)
        for number in (0, 1, 3, -1, 40):
            with self.assertRaises(BadNumber):
                keeper.take_back(number)
        self.assertEqual(state_of(keeper), before)

    def test_due_but_not_yet_handed_out(self):
        keeper = keeper_with(letter(("day", 0)))
        keeper.take_back(0)
        self.assertEqual(keeper.hand(), [])

    def test_a_letter_behind_it_may_be_changed_to_another_one(self):
        keeper = keeper_with(letter(("day", 0)), letter(("after", 0, 0)))
        keeper.take_back(0)
        keeper.change(1, letter(("day", 4)))
        self.assertEqual(keeper.due_by_now(), [None, 4])


class TestTell(unittest.TestCase):
    def test_new_once_and_always_the_same(self):
        keeper = Keeper()
        for happening, day in ((0, 0), (5, 60), (3, 7)):
            self.assertIs(keeper.tell(happening, day), True)
            self.assertIs(keeper.tell(happening, day), False)
            self.assertIs(keeper.tell(happening, day), False)
            with self.assertRaises(Unlike):
                keeper.tell(happening, 8)
            self.assertIs(keeper.tell(happening, day), False)

    def test_days_by_what_was_told(self):
        keeper = keeper_with(letter(("when", 2, 5)), letter(("after", 0, 1), ("when", 3, 0)))
        self.assertEqual(keeper.due_by_now(), [None, None])
        keeper.tell(2, 3)
        self.assertEqual(keeper.due_by_now(), [8, None])
        keeper.tell(3, 60)
        self.assertEqual(keeper.due_by_now(), [8, 60])
        with self.assertRaises(Unlike):
            keeper.tell(2, 4)
        self.assertEqual(keeper.due_by_now(), [8, 60])

    def test_told_ahead_of_the_letter(self):
        keeper = Keeper()
        keeper.tell(2, 3)
        keeper.put(letter(("when", 2, 5)))
        self.assertEqual(keeper.due_by_now(), [8])

    def test_told_late(self):
        keeper = keeper_with(letter(("when", 2, 1)))
        pass_to(keeper, 30)
        self.assertEqual(keeper.hand(), [])
        keeper.tell(2, 3)
        self.assertEqual(keeper.hand(), [(0, 0, 26)])

    def test_told_of_a_day_to_come(self):
        keeper = keeper_with(letter(("when", 2, 0)))
        keeper.tell(2, 2)
        self.assertEqual(keeper.due_by_now(), [2])
        self.assertEqual(keeper.hand(), [])
        pass_to(keeper, 2)
        self.assertEqual(keeper.hand(), [(0, 0, 0)])

    def test_in_any_turn(self):
        turns = []
        for told in ([(0, 1), (1, 2)], [(1, 2), (0, 1)], [(1, 2), (1, 2), (0, 1), (0, 1)]):
            keeper = keeper_with(letter(("when", 0, 1), ("when", 1, 0)), letter(("when", 1, 0)))
            pass_to(keeper, 3)
            for happening, day in told:
                keeper.tell(happening, day)
            turns.append(keeper.hand())
        self.assertEqual(turns, [[(0, 0, 1), (1, 0, 1)]] * 3)


class TestLeave(unittest.TestCase):
    def test_new_once_and_always_the_same(self):
        keeper = Keeper()
        for person, day in ((0, 0), (9, 60), (3, 7)):
            self.assertIs(keeper.leave(person, day), True)
            self.assertIs(keeper.leave(person, day), False)
            with self.assertRaises(Unlike):
                keeper.leave(person, 8)
            self.assertIs(keeper.leave(person, day), False)

    def test_gone_ahead_of_the_day_on_it_and_behind_it(self):
        for gone, who in ((2, 7), (3, 7), (4, 5)):
            keeper = keeper_with(letter(("day", 3), heirs=[5, 7]))
            keeper.leave(5, gone)
            pass_to(keeper, 3)
            self.assertEqual(keeper.hand(), [(0, who, 0)])

    def test_by_the_letters_day_not_by_that_of_handing(self):
        keeper = keeper_with(letter(("day", 3), heirs=[5, 7]), letter(("day", 6), heirs=[5, 7]))
        keeper.leave(5, 4)
        pass_to(keeper, 10)
        self.assertEqual(keeper.hand(), [(0, 5, 7), (1, 7, 4)])

    def test_all_gone(self):
        keeper = keeper_with(letter(("day", 0), heirs=[0, 9]))
        keeper.leave(0, 0)
        keeper.leave(9, 0)
        self.assertEqual(keeper.hand(), [(0, None, 0)])
        self.assertEqual(keeper.kept(), [])

    def test_told_behind_the_handing(self):
        keeper = keeper_with(letter(("day", 0), heirs=[5, 7]), letter(("day", 1), heirs=[5, 7]))
        self.assertEqual(keeper.hand(), [(0, 5, 0)])
        self.assertIs(keeper.leave(5, 0), True)
        self.assertEqual(keeper.hand(), [])
        keeper.pass_day()
        self.assertEqual(keeper.hand(), [(1, 7, 0)])

    def test_happenings_and_people_are_kept_apart(self):
        keeper = Keeper()
        self.assertIs(keeper.tell(3, 7), True)
        self.assertIs(keeper.leave(3, 8), True)
        self.assertIs(keeper.tell(3, 7), False)


class TestHand(unittest.TestCase):
    def test_by_days_then_by_letters(self):
        keeper = keeper_with(*[letter(("day", day), heirs=[day]) for day in (5, 3, 5, 0, 3, 6)])
        pass_to(keeper, 5)
        self.assertEqual(keeper.hand(), [(3, 0, 5), (1, 3, 2), (4, 3, 2), (0, 5, 0), (2, 5, 0)])
        self.assertEqual(keeper.kept(), [5])

    def test_each_once(self):
        keeper = keeper_with(letter(("day", 0)), letter(("day", 1)))
        self.assertEqual(keeper.hand(), [(0, 0, 0)])
        self.assertEqual(keeper.hand(), [])
        keeper.pass_day()
        self.assertEqual(keeper.hand(), [(1, 0, 0)])
        self.assertEqual(keeper.hand(), [])
        keeper.pass_day()
        self.assertEqual(keeper.hand(), [])

    def test_put_late_on_the_same_day(self):
        keeper = keeper_with(letter(("day", 0)))
        keeper.hand()
        keeper.put(letter(("after", 0, 0)))
        self.assertEqual(keeper.hand(), [(1, 0, 0)])

    def test_not_ahead_of_its_day(self):
        keeper = keeper_with(letter(("day", 2)))
        self.assertEqual(keeper.hand(), [])
        keeper.pass_day()
        self.assertEqual(keeper.hand(), [])
        keeper.pass_day()
        self.assertEqual(keeper.hand(), [(0, 0, 0)])

    def test_days_of_those_handed_out_and_days_to_come(self):
        keeper = keeper_with(letter(("day", 0)), letter(("after", 0, 20)), letter(("when", 0, 0)))
        keeper.hand()
        self.assertEqual(keeper.due_by_now(), [0, 20, None])
        self.assertEqual(keeper.kept(), [1, 2])
        self.assertEqual(len(keeper.all_letters()), 3)

    def test_a_letter_behind_one_of_the_same_day_goes_with_it(self):
        keeper = keeper_with(letter(("day", 0)), letter(("after", 0, 0)), letter(("after", 1, 0), heirs=[4]))
        self.assertEqual(keeper.hand(), [(0, 0, 0), (1, 0, 0), (2, 4, 0)])

    def test_forty_letters_in_one_chain(self):
        letters = [letter(("when", 5, 20))] + [letter(("after", k - 1, 20)) for k in range(1, 40)]
        keeper = keeper_with(*letters)
        keeper.tell(5, 60)
        self.assertEqual(keeper.due_by_now(), [80 + 20 * k for k in range(40)])
        pass_to(keeper, 80 + 20 * 39)
        self.assertEqual(keeper.hand(), [(k, 0, 20 * (39 - k)) for k in range(40)])


class TestDays(unittest.TestCase):
    def test_days_go_by_one_by_one(self):
        keeper = Keeper()
        self.assertEqual([keeper.pass_day() for turn in range(100)], list(range(1, 101)))

    def test_keepers_are_apart(self):
        one, other = Keeper(), Keeper()
        one.put(letter(("when", 0, 0)))
        one.tell(0, 3)
        one.leave(0, 3)
        one.pass_day()
        self.assertEqual(other.kept(), [])
        self.assertIs(other.tell(0, 4), True)
        self.assertIs(other.leave(0, 4), True)
        self.assertEqual(other.pass_day(), 1)


class Notes:
    """A keeper counted otherwise: everything is looked up in what was written down, from the start each time."""

    def __init__(self):
        self.day = 0
        self.letters = {}
        self.out = set()
        self.back = set()
        self.came = {}
        self.left = {}

    def due(self, number):
        if number in self.back:
            return None
        days = []
        for word, *rest in self.letters[number][1]:
            if word == "day":
                days.append(rest[0])
                continue
            start = self.came.get(rest[0]) if word == "when" else self.due(rest[0])
            if start is None:
                return None
            days.append(start + rest[1])
        return max(days)

    def kept(self):
        return [number for number in sorted(self.letters) if number not in self.out | self.back]

    def hand(self):
        due = [(self.due(number), number) for number in self.kept() if self.due(number) is not None]
        rows = []
        for day, number in sorted(row for row in due if row[0] <= self.day):
            here = [heir for heir in self.letters[number][0] if self.left.get(heir, 1000) > day]
            rows.append((number, here[0] if here else None, self.day - day))
            self.out.add(number)
        return rows


class TestByChance(unittest.TestCase):
    def some_letter(self, chance, place):
        heirs = chance.sample(range(10), chance.randint(1, 3))
        return (heirs, [some_term(chance, place) for turn in range(chance.choice([1, 1, 2]))])

    def put(self, chance, keeper, notes):
        if len(notes.letters) < 40:
            number = len(notes.letters)
            notes.letters[number] = self.some_letter(chance, number)
            self.assertEqual(keeper.put(notes.letters[number]), number)

    def change(self, chance, keeper, notes):
        number = chance.randint(0, len(notes.letters))
        new = self.some_letter(chance, number)
        if number in notes.kept():
            notes.letters[number] = new
            self.assertIsNone(keeper.change(number, new))
        else:
            with self.assertRaises(BadNumber):
                keeper.change(number, new)

    def take_back(self, chance, keeper, notes):
        number = chance.randint(0, len(notes.letters))
        if number in notes.kept():
            notes.back.add(number)
            self.assertIsNone(keeper.take_back(number))
        else:
            with self.assertRaises(BadNumber):
                keeper.take_back(number)

    def tell(self, chance, keeper, notes):
        self.note(keeper.tell, notes.came, chance.randint(0, 5), chance.randint(0, 12))

    def leave(self, chance, keeper, notes):
        self.note(keeper.leave, notes.left, chance.randint(0, 9), chance.randint(0, 12))

    def note(self, method, days, at, day):
        if days.get(at, day) != day:
            with self.assertRaises(Unlike):
                method(at, day)
            return
        self.assertIs(method(at, day), at not in days)
        days[at] = day

    def hand(self, chance, keeper, notes):
        self.assertEqual(keeper.hand(), notes.hand())

    def pass_day(self, chance, keeper, notes):
        notes.day += 1
        self.assertEqual(keeper.pass_day(), notes.day)

    def test_the_same_as_counted_otherwise(self):
        steps = [self.put] * 5 + [self.change, self.take_back, self.tell, self.leave, self.hand, self.pass_day]
        for seed in range(120):
            chance = chance_of(seed)
            keeper, notes = Keeper(), Notes()
            for turn in range(60):
                chance.choice(steps)(chance, keeper, notes)
                with self.subTest(seed=seed, turn=turn):
                    self.assertEqual(keeper.kept(), notes.kept())
                    self.assertEqual(keeper.all_letters(), [notes.letters[k] for k in range(len(notes.letters))])
                    self.assertEqual(keeper.due_by_now(), [notes.due(k) for k in range(len(notes.letters))])


if __name__ == "__main__":
    unittest.main()
