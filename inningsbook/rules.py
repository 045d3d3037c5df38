"""Rules: a tuple (over, overs, spell, wide, noball, side, innings, follow), and their text."""

from inningsbook.errors import BadRow, Twice
from inningsbook.words import number_in, numbered_rows

# In the order of the tuple: the word, the least and the most number, and what holds without a row.
KINDS = (
    ("over", 1, 12, 6),
    ("overs", 0, 99, 0),
    ("spell", 0, 99, 0),
    ("wide", 0, 9, 1),
    ("noball", 0, 9, 1),
    ("side", 2, 11, 11),
    ("innings", 1, 2, 1),
    ("follow", 0, 999, 0),
)

# Where each number stands in the tuple.
OVER_AT = 0
OVERS_AT = 1
SPELL_AT = 2
WIDE_AT = 3
NOBALL_AT = 4
SIDE_AT = 5
INNINGS_AT = 6
FOLLOW_AT = 7


def within_range(word, number):
    """Whether a row of this word may have this number; no other word may have any."""
    for kind, least, most, usual in KINDS:
        if kind == word:
            return least <= number <= most
    return False


def rule_number(words):
    """The number that a row of rules tells, or None where the row is none."""
    if len(words) != 2:
        return None
    number = number_in(words[1])
    if number is None or not within_range(words[0], number):
        return None
    return number


def read_rules(text):
    """The rules that a text tells."""
    told = {}
    for place, words in numbered_rows(text):
        number = rule_number(words)
        # The form goes first: a row of no form is a BadRow also where its word was told before.
        if number is None:
            raise BadRow(f"row {place} is no row of rules", place)
        word = words[0]
        if word in told:
            raise Twice(f"row {place} tells {word} again", place)
        told[word] = number
    return tuple([told.get(kind, usual) for kind, least, most, usual in KINDS])


def shown_rules(rules):
    """The text of rules, with a row for each of the eight numbers."""
    rows = []
    for kind, number in zip(KINDS, rules):
        word = kind[0]
        rows.append(f"{word} {number}")
    return "\n".join(rows)
