"""What is told of letters at once: their days, why these, to whom they go, and which is ahead."""

from laterletters.answers import Ahead, Perhaps, Waits, Why
from laterletters.errors import BadDays, BadGone, BadLetters, BadNumber, BadSpans, NoDay
from laterletters.letters import (
    HAPPENINGS, PEOPLE, are_days, are_letters, are_spans, deciding_days, first_days, first_heir, in_order, is_ahead,
    is_whole, last_days, letter_days, term_day,
)


def due_days(letters, days):
    """The day of each letter, None if it has none."""
    check_letters(letters)
    check_days(days)
    return letter_days(letters, days)


def why(letters, days, number):
    """Why the letter is due on its day, or for what it waits."""
    check_letters(letters)
    check_days(days)
    check_number(number, letters)
    due = letter_days(letters, days)
    chain = chain_from(letters, days, due, number)
    if due[number] is None:
        return Waits(chain)
    return Why(chain)


def handed_out(letters, days, gone):
    """Triples of the day, the letter and who gets it, in order."""
    check_letters(letters)
    check_days(days)
    if not are_days(gone, PEOPLE):
        raise BadGone("it isn't told for each person from which day on it is gone")
    due = letter_days(letters, days)
    return [(day, number, first_heir(letters[number], gone, day)) for day, number in in_order(due)]


def between(letters, spans):
    """The least and the most day of each letter, None if it has none."""
    check_letters(letters)
    check_spans(spans)
    # No letter comes earlier if a happening comes later.
    least = letter_days(letters, first_days(spans))
    most = letter_days(letters, last_days(spans))
    return [None if early is None else (early, late) for early, late in zip(least, most)]


def surely(letters, spans, one, other):
    """Whether the one letter is ahead of the other whatever the days, or days by which it isn't."""
    check_letters(letters)
    check_spans(spans)
    check_number(one, letters)
    check_number(other, letters)
    if one == other:
        raise BadNumber("both are the same letter")
    due = letter_days(letters, first_days(spans))
    if due[one] is None or due[other] is None:
        raise NoDay("one of the letters has no day")
    for days in deciding_days(spans):
        if not is_ahead(letters, days, one, other):
            return Perhaps(days)
    return Ahead()


def check_letters(letters):
    if not are_letters(letters):
        raise BadLetters("these are no letters")


def check_days(days):
    if not are_days(days, HAPPENINGS):
        raise BadDays("these are no days of happenings")


def check_spans(spans):
    if not are_spans(spans):
        raise BadSpans("these are no spans of happenings")


def check_number(number, letters):
    if not is_whole(number, 0, len(letters) - 1):
        raise BadNumber("none of the letters has that number")


def chain_from(letters, days, due, number):
    """The chain of the first terms that have their letter's day, or none as it has none."""
    chain = []
    while True:
        terms = letters[number][1]
        place = [term_day(term, days, due) for term in terms].index(due[number])
        chain.append((number, place))
        if terms[place][0] != "after":
            return chain
        number = terms[place][1]
