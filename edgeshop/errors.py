"""What is refused, one class for each kind of refusal.

No text here is made of what was handed in: that may be too deep or too long to be shown.
"""


class BadStock(ValueError):
    """What is no STOCK, by the place where it is none."""

    def __init__(self, place):
        ValueError.__init__(self, "no stock")
        self.place = place


class BadHistory(ValueError):
    """What is no HISTORY, or none that HOLDS, by the place."""

    def __init__(self, place):
        ValueError.__init__(self, "no history that holds")
        self.place = place


class BadText(ValueError):
    """What is no text of a stock or of a history, by the number of a row."""

    def __init__(self, row):
        ValueError.__init__(self, "no such text")
        self.row = row


class BadPaper(ValueError):
    """What is no PAPER for a LIST, by the place."""

    def __init__(self, place):
        ValueError.__init__(self, "no paper for this list")
        self.place = place


class BadQuestion(ValueError):
    """A TIME, or another thing that is asked for, that is none."""


class BadDeed(ValueError):
    """What is no DEED, or one for which nothing stands."""


class NoSuch(KeyError):
    """A name that isn't there: its field is just what was handed in."""

    def __init__(self, name):
        KeyError.__init__(self, "a name that is not there")
        self.name = name


class NoEvent(IndexError):
    """A number that no EVENT has: its field is just what was handed in."""

    def __init__(self, number):
        IndexError.__init__(self, "no event of that number")
        self.number = number


class NoneServes(LookupError):
    """A work that no tool serves, by its name."""

    def __init__(self, work):
        LookupError.__init__(self, "no tool serves this work")
        self.work = work
