"""The errors by which a refusal is told, one for each kind of it."""


class LetterError(ValueError):
    """Whatever is refused: the class over all the others."""


class BadLetters(LetterError):
    """The letters handed in are no list of letters."""


class BadLetter(LetterError):
    """The letter handed in is none, or none for its place."""


class BadDays(LetterError):
    """The days of happenings are no list of a day or None for each."""


class BadGone(LetterError):
    """The days from which on people are gone are no list of a day or None for each."""


class BadSpans(LetterError):
    """The spans of happenings are no list of a first and a last day or None for each."""


class BadNumber(LetterError):
    """The number is that of no letter, or of none that is kept, or two numbers are one."""


class BadHappening(LetterError):
    """The happening is none."""


class BadDay(LetterError):
    """The day is none."""


class BadPerson(LetterError):
    """The person is none."""


class NoDay(LetterError):
    """One of two letters to be compared has no day."""


class Unlike(LetterError):
    """A day is told that is unlike the one told earlier."""


class TooMany(LetterError):
    """As many letters came as may come."""
