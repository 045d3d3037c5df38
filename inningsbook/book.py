"""The book: the entries of a match, in which any one may be put right later."""

from inningsbook.errors import NoEntry, NotLet
from inningsbook.match import Match


class Book:
    """The entries that were told, and the match to which they lead."""

    def __init__(self, rules, teams):
        self.rules = rules
        # A match changes its players by swaps, so the teams of the beginning are kept beside it.
        self.teams = [(name, list(players)) for name, players in teams]
        self.kept = []
        self.current = Match(rules, teams)

    def tell(self, entry):
        """Does an entry and keeps it, or refuses it with NotLet."""
        self.current.tell(entry)
        self.kept.append(entry)

    def entries(self):
        """The list of the entries that are kept."""
        return list(self.kept)

    def match(self):
        """A match to which all entries were told, and which is the asker's own."""
        own = Match(self.rules, self.teams)
        for entry in self.kept:
            own.tell(entry)
        return own

    def need_number(self, number, count):
        """Refuses a number that is none of the first `count` numbers."""
        if not 0 <= number < count:
            raise NoEntry(f"there is no entry {number}", number)

    def retell(self, entries):
        """Keeps these entries where all stand; else tells the pair (number, rule) of the first one that can't."""
        trial = Match(self.rules, self.teams)
        for number, entry in enumerate(entries):
            try:
                trial.tell(entry)
            except NotLet as error:
                return (number, error.rule)
        self.kept = entries
        self.current = trial
        return None

    def put_right(self, number, entry):
        """Tries the entries with another one in the place of that number."""
        self.need_number(number, len(self.kept))
        return self.retell(self.kept[:number] + [entry] + self.kept[number + 1:])

    def put_in(self, number, entry):
        """Tries the entries with one more, ahead of the one of that number, or behind all."""
        self.need_number(number, len(self.kept) + 1)
        return self.retell(self.kept[:number] + [entry] + self.kept[number:])

    def take_out(self, number):
        """Tries the entries without the one of that number."""
        self.need_number(number, len(self.kept))
        return self.retell(self.kept[:number] + self.kept[number + 1:])
