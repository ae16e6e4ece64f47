"""What is told of letters: why one is due, for what it waits, whether it is surely ahead of another one."""

from laterletters.letters import deciding_days, is_ahead, is_whole, letter_days, term_day


class Answer:
    """Whatever is told with a word of its own for showing it."""


class Why(Answer):
    """By this chain a letter is due on its day."""

    def __init__(self, chain):
        self.chain = list(chain)

    def shows(self, letters, days, number):
        """Whether the chain gives the letter's day."""
        end = chain_end(letters, number, self.chain)
        if end is None:
            return False
        term, delays = end
        day = term_day(term, days, [])
        return day is not None and day + delays == letter_days(letters, days)[number]


class Waits(Answer):
    """By this chain a letter waits for a happening."""

    def __init__(self, chain):
        self.chain = list(chain)

    def shows(self, letters, days, number):
        """Whether the chain ends at a happening that didn't come."""
        end = chain_end(letters, number, self.chain)
        if end is None:
            return False
        return term_day(end[0], days, []) is None


class Ahead(Answer):
    """Whatever the days within the spans, the one letter is ahead of the other."""

    def shows(self, letters, spans, one, other):
        """Whether it is ahead by all days within the spans."""
        return all(is_ahead(letters, days, one, other) for days in deciding_days(spans))


class Perhaps(Answer):
    """Days within the spans by which the one letter isn't ahead of the other."""

    def __init__(self, days):
        self.days = list(days)

    def shows(self, letters, spans, one, other):
        """Whether the days are within the spans, and it isn't ahead by them."""
        return are_within(self.days, spans) and not is_ahead(letters, self.days, one, other)


def is_link(link, letters, number):
    """Whether it is a pair of that letter and the place of one of its terms."""
    if not isinstance(link, tuple) or len(link) != 2:
        return False
    return is_whole(link[0], number, number) and is_whole(link[1], 0, len(letters[number][1]) - 1)


def chain_end(letters, number, chain):
    """The last term of a chain from that letter and the delays ahead of it, None if it is no such chain."""
    delays = 0
    for at, link in enumerate(chain):
        if not is_link(link, letters, number):
            return None
        term = letters[number][1][link[1]]
        if term[0] != "after":
            return (term, delays) if at == len(chain) - 1 else None
        number = term[1]
        delays += term[2]
    return None


def are_within(days, spans):
    """Whether they are days, one for each span, None for None."""
    if len(days) != len(spans):
        return False
    return all(is_within(day, span) for day, span in zip(days, spans))


def is_within(day, span):
    if span is None:
        return day is None
    return is_whole(day, span[0], span[1])
