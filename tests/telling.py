"""What several tests share: two small teams, matches told by rows, and all that a match tells."""

import unittest

from inningsbook.entries import read_entries
from inningsbook.errors import BookError, NotLet
from inningsbook.match import Match
from inningsbook.rules import read_rules

REDS = ("a", "b", "c", "d")
BLUES = ("p", "q", "r", "s")


def teams_of(reds=REDS, blues=BLUES):
    return [("reds", list(reds)), ("blues", list(blues))]


def rules_of(text=""):
    return read_rules("side 4\n" + text)


def tell_rows(match, *rows):
    for entry in read_entries("\n".join(rows)):
        match.tell(entry)
    return match


def match_of(rules_text, *rows):
    return tell_rows(Match(rules_of(rules_text), teams_of()), *rows)


def all_told(match):
    return (match.state(), match.innings(), match.turn(), match.players(), match.result(), match.log())


def sixes(count):
    """Rows of so many sixes over the rope, which move nobody."""
    return ["bat 6 rope"] * count


class Telling(unittest.TestCase):
    def refused(self, match, rule, *rows):
        """Each row by itself is refused by this word, and changes nothing that is told."""
        for row in rows:
            with self.subTest(rule=rule, row=row):
                before = all_told(match)
                with self.assertRaises(BookError) as caught:
                    tell_rows(match, row)
                self.assertIs(type(caught.exception), NotLet)
                self.assertEqual(caught.exception.rule, rule)
                self.assertEqual(caught.exception.number, 0)
                self.assertIs(type(caught.exception.number), int)
                self.assertEqual(all_told(match), before)

    def places(self, match, facing, other):
        self.assertEqual(match.state()[1:3], (facing, other))
