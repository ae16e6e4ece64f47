"""What several tests share: odd values, broken letters, letters by chance, and days counted in another way."""

import collections
import copy
import random

from laterletters.keepers import Keeper

NEVER = [None] * 6
ALL_STAY = [None] * 10


class Likes:
    """Says that it is like everything, and within all bounds."""

    def __eq__(self, other):
        return True

    def __hash__(self):
        return 0

    def __lt__(self, other):
        return True

    __le__ = __gt__ = __ge__ = __lt__

    def __index__(self):
        return 0

    __int__ = __index__

    def __len__(self):
        return 2

    def __getitem__(self, at):
        return 0


def odd_values():
    """Values of every sort, none of them a whole number from 0 to 60, a letter, or a good list of anything."""
    return [
        None, True, False, "", "0", "day", "letters", b"", b"0", b"day", (), (0,), (0, 0), (0, 0, 0), ("day", 1),
        [], [0], [[]], [None], {}, {0: 0}, {"day": 1}, set(), {0}, frozenset([0]), object(), Likes(), Likes,
        int, list, tuple, object, Keeper, Keeper(), len, lambda: 0, range(6), iter([]), bytearray(b"day"),
        collections.deque([0]), collections.UserList([0]), Exception("day"), ..., NotImplemented, slice(0, 1),
        -1, -10 ** 30, 10 ** 30, 10 ** 5000, -10 ** 5000,
    ]


def but(values, *fine):
    """The values without those that are fine in a place, taken by kind and likeness."""
    return [value for value in values if not any(type(value) is type(good) and value == good for good in fine)]


def replaced(several, at, value):
    """A copy with another value in one place; the kind stays."""
    changed = list(several)
    changed[at] = value
    return type(several)(changed)


def bad_numbers(many):
    """What is no number below so many."""
    return odd_values() + [many, many + 1]


def in_other_kinds(good):
    """The same things, but not as a list."""
    return [tuple(good), dict(enumerate(good)), iter(good), collections.deque(good), collections.UserList(good),
            str(good), (good,), [good], {"": good}]


def bad_day_lists(many):
    """What is no list of so many days and Nones; only one thing is wrong with each."""
    good = [0, None, 60] + [None] * (many - 3)
    bad = odd_values() + in_other_kinds(good) + [good[1:], good[:-1], good + [None], good + [0], [], good * 2]
    for at in range(many):
        bad += [replaced(good, at, value) for value in but(bad_numbers(61), None)]
    return bad


def bad_spans():
    """What are no spans; only one thing is wrong with each."""
    good = [(0, 60), None, (7, 7), (3, 5), None, (60, 60)]
    bad = odd_values() + in_other_kinds(good) + [good[1:], good + [None], good + [(0, 1)], []]
    for at in range(6):
        bad += [replaced(good, at, value) for value in but(odd_values(), None, (0, 0))]
        bad += [replaced(good, at, value) for value in ([0, 1], (1, 0), (60, 59), (60, 0), (0, 1, 2), (0, 61), 5)]
        for place in range(2):
            span = ((0, 60), (60, 60))[1 - place]
            bad += [replaced(good, at, replaced(span, place, value)) for value in bad_numbers(61)]
    return bad


def good_letter(place):
    """A letter for that place, with all three sorts of terms, where letters stand ahead of it."""
    terms = [("day", 0), ("when", 5, 20), ("when", 0, 0)]
    return ([0, 9, 4], terms + [("after", place - 1, 20)] if place > 0 else terms)


def bad_heirs():
    good = [0, 9, 4]
    bad = odd_values() + in_other_kinds(good) + [[0, 1, 2, 3], [0, 0], [1, 2, 1], [9, 9, 9], [3, 4, 4]]
    bad = but(bad, [0])
    for at in range(3):
        bad += [replaced(good, at, value) for value in bad_numbers(10)]
    return bad


def bad_terms(place):
    """What is no term of a letter at that place; only one thing is wrong with each."""
    bad = but(odd_values(), ("day", 1))
    goods = [("day", 60), ("when", 5, 20)] + ([("after", 0, 0)] if place > 0 else [])
    for good in goods:
        bad += [list(good), good[:-1], good[1:], good + (0,), good + (None,), (good,), iter(good), dict.fromkeys(good)]
        bad += [replaced(good, 0, word) for word in but(odd_values(), "day")]
        bad += [replaced(good, 0, word) for word in ("Day", "DAY", "days", "day ", " day", "w", "before", "whenever")]
    bad += [("day", value) for value in bad_numbers(61)]
    bad += [("when", value, 0) for value in bad_numbers(6)]
    bad += [("when", 0, value) for value in bad_numbers(21)]
    bad += [("after", value, 0) for value in bad_numbers(place)]
    bad += [("after", 0, value) for value in bad_numbers(21)]
    return bad + [("day", 0, 0), ("when", 0), ("after", 0), ("when", 0, 0, 0), ("after", 0, 0, 0)]


def bad_term_lists(place):
    good = good_letter(place)[1]
    bad = odd_values() + in_other_kinds(good) + [[("day", 0)] * 5, good + good]
    for at in range(len(good)):
        bad += [replaced(good, at, term) for term in bad_terms(place)]
    return bad


def bad_letters(place):
    """What is no letter for that place; only one thing is wrong with each."""
    heirs, terms = good_letter(place)
    bad = odd_values()
    bad += [[heirs, terms], (heirs,), (terms,), (heirs, terms, []), (terms, heirs), (heirs, terms, None)]
    bad += [{0: heirs, 1: terms}, iter((heirs, terms))]
    bad += [(value, terms) for value in bad_heirs()]
    bad += [(heirs, value) for value in bad_term_lists(place)]
    return bad


def some_letters(chance, many):
    """Letters by chance, with days close to each other, so that many are alike."""
    letters = []
    for place in range(many):
        heirs = chance.sample(range(10), chance.randint(1, 3))
        letters.append((heirs, [some_term(chance, place) for turn in range(chance.randint(1, 4))]))
    return letters


def some_term(chance, place):
    sort = chance.choice(["day", "when", "after", "after"] if place > 0 else ["day", "when"])
    if sort == "day":
        return ("day", chance.randint(0, 12))
    if sort == "when":
        return ("when", chance.randint(0, 5), chance.randint(0, 4))
    return ("after", chance.randrange(place), chance.randint(0, 4))


def some_days(chance, many, nones):
    """So many days by chance, of which about so many in ten are None."""
    return [None if chance.randrange(10) < nones else chance.randint(0, 9) for turn in range(many)]


def some_spans(chance, nones, widest):
    firsts = some_days(chance, 6, nones)
    return [None if first is None else (first, first + chance.randint(0, widest)) for first in firsts]


def all_chains(letters, number):
    """Every chain from that letter: the chain, its last term, the delays ahead of that."""
    for place, term in enumerate(letters[number][1]):
        if term[0] != "after":
            yield [(number, place)], term, 0
            continue
        for chain, last, delays in all_chains(letters, term[1]):
            yield [(number, place)] + chain, last, delays + term[2]


def end_day(last, days):
    if last[0] == "day":
        return last[1]
    return None if days[last[1]] is None else days[last[1]] + last[2]


def day_by_chains(letters, days, number):
    """The letter's day, counted over all of its chains instead of letter by letter."""
    found = []
    for chain, last, delays in all_chains(letters, number):
        day = end_day(last, days)
        if day is None:
            return None
        found.append(day + delays)
    return max(found)


def chance_of(number):
    return random.Random(number)


def long_chain(delay, first_term):
    """Forty letters, each behind the one ahead of it."""
    return [([0], [first_term])] + [([place % 10], [("after", place - 1, delay)]) for place in range(1, 40)]


def state_of(keeper):
    """All that a keeper tells, now and on the next days, without changing it."""
    ahead = copy.deepcopy(keeper)
    told = [ahead.kept(), ahead.all_letters(), ahead.due_by_now(), ahead.hand()]
    for turn in range(3):
        told += [ahead.pass_day(), ahead.hand(), ahead.kept()]
    return told
