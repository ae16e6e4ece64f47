"""A keeper, where letters are put, changed and taken back, and handed out as days go by."""

from laterletters.errors import BadDay, BadHappening, BadLetter, BadNumber, BadPerson, TooMany, Unlike
from laterletters.letters import (
    HAPPENINGS, MOST_LETTERS, PEOPLE, copy_of, first_heir, in_order, is_day, is_happening, is_letter, is_person,
    is_whole, letter_day,
)

KEPT = "kept"
HANDED_OUT = "handed out"
TAKEN_BACK = "taken back"


class Keeper:
    """Letters, what was told of happenings and people, and which day it is."""

    def __init__(self):
        self.today = 0
        self.letters = []
        # Letters behind one that is kept no more still ask for it: so it stays, with what became of it.
        self.fates = []
        self.happened = [None] * HAPPENINGS
        self.gone = [None] * PEOPLE

    def put(self, letter):
        """The number by which the letter is kept."""
        number = len(self.letters)
        check_letter(letter, number)
        if number >= MOST_LETTERS:
            raise TooMany("as many letters came as may come")
        self.letters.append(copy_of(letter))
        self.fates.append(KEPT)
        return number

    def change(self, number, letter):
        """Another letter is kept in the place of that one."""
        self.check_kept(number)
        check_letter(letter, number)
        self.letters[number] = copy_of(letter)

    def take_back(self, number):
        """The letter is kept no more, and has no day."""
        self.check_kept(number)
        self.fates[number] = TAKEN_BACK

    def tell(self, happening, day):
        """A happening came on that day: True if this is new."""
        if not is_happening(happening):
            raise BadHappening("there is no such happening")
        check_day(day)
        return told_newly(self.happened, happening, day)

    def leave(self, person, day):
        """A person is gone from that day on: True if this is new."""
        if not is_person(person):
            raise BadPerson("there is no such person")
        check_day(day)
        return told_newly(self.gone, person, day)

    def hand(self):
        """All letters that are kept and due by now: triples of the letter, who gets it and how many days late."""
        due = self.due_by_now()
        handed = []
        for day, number in in_order(due):
            if day <= self.today and self.fates[number] == KEPT:
                who = first_heir(self.letters[number], self.gone, day)
                handed.append((number, who, self.today - day))
                self.fates[number] = HANDED_OUT
        return handed

    def pass_day(self):
        """The next day."""
        self.today += 1
        return self.today

    def kept(self):
        """The numbers of the letters that are kept."""
        return [number for number, fate in enumerate(self.fates) if fate == KEPT]

    def all_letters(self):
        """All letters that came, as they are, also those that are kept no more."""
        return [copy_of(letter) for letter in self.letters]

    def due_by_now(self):
        """The day of each letter that came, by what was told till now."""
        due = []
        for number, letter in enumerate(self.letters):
            taken = self.fates[number] == TAKEN_BACK
            due.append(None if taken else letter_day(letter, self.happened, due))
        return due

    def check_kept(self, number):
        if not is_whole(number, 0, len(self.fates) - 1) or self.fates[number] != KEPT:
            raise BadNumber("no letter is kept by that number")


def check_letter(letter, place):
    if not is_letter(letter, place):
        raise BadLetter("this is no letter for that place")


def check_day(day):
    if not is_day(day):
        raise BadDay("there is no such day")


def told_newly(days, at, day):
    """Keeps the day in its place: True if it is new there, False if it was told already."""
    if days[at] is None:
        days[at] = day
        return True
    if days[at] != day:
        raise Unlike("another day was told earlier")
    return False
