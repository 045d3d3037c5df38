"""The refusals: each a class of its own, straight under BookError."""


class BookError(ValueError):
    """Any refusal."""


class BadRow(BookError):
    """A row has none of the forms that its text may have."""

    def __init__(self, words, place):
        BookError.__init__(self, words)
        self.place = place


class Misplaced(BookError):
    """A row of a good form stands where it may not."""

    def __init__(self, words, place):
        BookError.__init__(self, words)
        self.place = place


class Twice(BookError):
    """A row tells again what may be told once alone."""

    def __init__(self, words, place):
        BookError.__init__(self, words)
        self.place = place


class Unfinished(BookError):
    """A text ends ahead of all that it must tell."""

    def __init__(self, words, place):
        BookError.__init__(self, words)
        self.place = place


class Falling(BookError):
    """A row of a table breaks the order of its numbers."""

    def __init__(self, words, place):
        BookError.__init__(self, words)
        self.place = place


class NotLet(BookError):
    """The rules of the game don't let an entry be."""

    def __init__(self, words, rule, number=0):
        BookError.__init__(self, words)
        self.rule = rule
        self.number = number


class NoEntry(BookError):
    """No entry has the number that was told."""

    def __init__(self, words, number):
        BookError.__init__(self, words)
        self.number = number
