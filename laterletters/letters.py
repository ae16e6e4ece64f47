"""What letters, days and spans are, and the days that letters have by them."""

MOST_LETTERS = 40
MOST_HEIRS = 3
PEOPLE = 10
MOST_TERMS = 4
HAPPENINGS = 6
LAST_DAY = 60
LONGEST_DELAY = 20


def is_whole(value, least, most):
    """Whether it is a whole number from the least to the most one; True and False are none."""
    if not isinstance(value, int) or isinstance(value, bool):
        return False
    return least <= value <= most


def is_day(value):
    return is_whole(value, 0, LAST_DAY)


def is_happening(value):
    return is_whole(value, 0, HAPPENINGS - 1)


def is_person(value):
    return is_whole(value, 0, PEOPLE - 1)


def is_term(term, place):
    """Whether it is a term of a letter at that place: only letters ahead of the place are earlier ones."""
    if not isinstance(term, tuple) or len(term) not in (2, 3) or not isinstance(term[0], str):
        return False
    if len(term) == 2:
        return term[0] == "day" and is_day(term[1])
    if not is_whole(term[2], 0, LONGEST_DELAY):
        return False
    if term[0] == "when":
        return is_happening(term[1])
    return term[0] == "after" and is_whole(term[1], 0, place - 1)


def are_heirs(heirs):
    if not isinstance(heirs, list) or not 1 <= len(heirs) <= MOST_HEIRS:
        return False
    # Only numbers may come into a set: what else is handed in may be none that a set takes.
    return all(is_person(heir) for heir in heirs) and len(set(heirs)) == len(heirs)


def are_terms(terms, place):
    if not isinstance(terms, list) or not 1 <= len(terms) <= MOST_TERMS:
        return False
    return all(is_term(term, place) for term in terms)


def is_letter(letter, place):
    """Whether it is a letter that may stand at that place of the list."""
    if not isinstance(letter, tuple) or len(letter) != 2:
        return False
    heirs, terms = letter
    return are_heirs(heirs) and are_terms(terms, place)


def are_letters(letters):
    if not isinstance(letters, list) or not 1 <= len(letters) <= MOST_LETTERS:
        return False
    return all(is_letter(letter, place) for place, letter in enumerate(letters))


def are_days(days, many):
    """Whether it is a list of so many days and Nones."""
    if not isinstance(days, list) or len(days) != many:
        return False
    return all(day is None or is_day(day) for day in days)


def is_span(span):
    """Whether it is a first and a last day; a last one ahead of the first leaves no day between."""
    if not isinstance(span, tuple) or len(span) != 2:
        return False
    first, last = span
    return is_day(first) and is_day(last) and first <= last


def are_spans(spans):
    if not isinstance(spans, list) or len(spans) != HAPPENINGS:
        return False
    return all(span is None or is_span(span) for span in spans)


def copy_of(letter):
    """A letter of its own lists, that nobody else can change."""
    heirs, terms = letter
    return (list(heirs), list(terms))


def term_day(term, days, due):
    """The day of a term, by the days of happenings and those of the earlier letters; None if it has none."""
    if term[0] == "day":
        return term[1]
    start = days[term[1]] if term[0] == "when" else due[term[1]]
    return None if start is None else start + term[2]


def letter_day(letter, days, due):
    """The latest day of its terms, None if one of them has none."""
    latest = 0
    for term in letter[1]:
        day = term_day(term, days, due)
        if day is None:
            return None
        latest = max(latest, day)
    return latest


def letter_days(letters, days):
    """The day of each letter, or None."""
    due = []
    for letter in letters:
        due.append(letter_day(letter, days, due))
    return due


def in_order(due):
    """Pairs of the day and the number of each letter that has a day, in the order in which they are handed out."""
    return sorted((day, number) for number, day in enumerate(due) if day is not None)


def first_heir(letter, gone, day):
    """The first heir who isn't gone on that day, None if all are."""
    for person in letter[0]:
        if gone[person] is None or day < gone[person]:
            return person
    return None


def first_days(spans):
    return [None if span is None else span[0] for span in spans]


def last_days(spans):
    return [None if span is None else span[1] for span in spans]


def deciding_days(spans):
    """All first days, and these with one last day each: by these alone it shows whether a letter is surely ahead.

    Its day is that of one chain, which goes back to one happening at most. If by some days it isn't ahead, then
    it isn't either when that happening comes as late as it may, and all others as early as they may: by this its
    own day gets at least as many days later as the other letter's.
    """
    firsts = first_days(spans)
    told = [firsts]
    for happening, last in enumerate(last_days(spans)):
        told.append(firsts[:happening] + [last] + firsts[happening + 1:])
    return told


def is_ahead(letters, days, one, other):
    """Whether the one letter's day is less, or the same and its place is."""
    due = letter_days(letters, days)
    return (due[one], one) < (due[other], other)
