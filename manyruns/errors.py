"""The refusals: each has its own class, and the field that it is made with.

No class makes a message of its field: a number of very many digits, which
TooGreat may have, cannot be written out by Python.
"""


class BadTable(ValueError):
    """There is no such table: part names the first thing that is not so."""

    def __init__(self, part):
        self.part = part


class BadRow(ValueError):
    """The row of this number is not so written, or cannot stand there."""

    def __init__(self, row):
        self.row = row


class BadText(ValueError):
    """The text is not that of a saying."""

    def __init__(self, text):
        self.text = text


class BadKind(ValueError):
    """The saying is of a kind that is not looked at here."""

    def __init__(self, kind):
        self.kind = kind


class TooGreat(OverflowError):
    """There are so many, which is more than are looked at."""

    def __init__(self, many):
        self.many = many


class NoState(KeyError):
    """There is no state of this name."""

    def __init__(self, name):
        self.name = name


class NoSaying(KeyError):
    """There is no saying of this name."""

    def __init__(self, name):
        self.name = name


class NoMove(LookupError):
    """There is no such move."""

    def __init__(self, move):
        self.move = move


class NoDeed(LookupError):
    """There are not so many deeds."""

    def __init__(self, many):
        self.many = many


class NoMend(LookupError):
    """No moves are few enough to mend the table."""


class LastMove(RuntimeError):
    """No move would lead away from this state any more."""

    def __init__(self, state):
        self.state = state


class LastBegin(RuntimeError):
    """No run could begin any more."""


class Known(RuntimeError):
    """What would come is there already."""

    def __init__(self, name):
        self.name = name
