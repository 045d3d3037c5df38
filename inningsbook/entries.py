"""Entries: tuples that begin with the word of their sort, and their text.

A ball is ("ball", kind, runs, rope, way, who, end); behind the word of any other entry stand names alone.
"""

from inningsbook.errors import BadRow
from inningsbook.words import is_name, number_in, numbered_rows

# How many names stand behind the first word of each sort but a ball.
NAMES_BEHIND = {"start": 4, "in": 1, "bowl": 1, "hurt": 1, "swap": 2, "declare": 0, "follow": 0, "close": 0}

KINDS = ("bat", "bye", "leg", "wide", "no", "nobye")
MOST_RUNS = 9
# The ways that are told by one word; behind `run` stand also a name and an end.
PLAIN_WAYS = ("bowled", "caught", "before", "stumped", "hit")
ENDS = ("strike", "other")


def entry_of_names(words):
    """The entry of a row with names alone behind its first word, or None where the row is none."""
    names = words[1:]
    # A first word of no sort has no count, and so never the right one.
    if NAMES_BEHIND.get(words[0]) != len(names):
        return None
    if not all([is_name(name) for name in names]):
        return None
    return tuple(words)


def out_of_words(words):
    """A tuple (way, who, end) of what stands behind a ball's runs and rope, or None where it has no form."""
    if len(words) == 0:
        return ("", "", "")
    if words[0] != "out":
        return None
    if len(words) == 2 and words[1] in PLAIN_WAYS:
        return (words[1], "", "")
    if len(words) == 4 and words[1] == "run" and is_name(words[2]) and words[3] in ENDS:
        return (words[1], words[2], words[3])
    return None


def ball_of_words(words):
    """The entry of a ball's row, or None where the row is none."""
    if len(words) < 2 or words[0] not in KINDS:
        return None
    runs = number_in(words[1])
    if runs is None or runs > MOST_RUNS:
        return None
    rope = words[2:3] == ["rope"]
    out = out_of_words(words[3:] if rope else words[2:])
    if out is None:
        return None
    return ("ball", words[0], runs, rope) + out


def entry_of_words(words):
    """The entry that the words of a row tell, or None where they tell none."""
    ball = ball_of_words(words)
    if ball is None:
        return entry_of_names(words)
    return ball


def read_entries(text):
    """The list of the entries that a text tells."""
    entries = []
    for place, words in numbered_rows(text):
        entry = entry_of_words(words)
        if entry is None:
            raise BadRow(f"row {place} is no entry", place)
        entries.append(entry)
    return entries


def words_of_ball(entry):
    """The words of a ball's row."""
    words = [entry[1], str(entry[2])]
    if entry[3]:
        words.append("rope")
    if entry[4] != "":
        words.extend(["out", entry[4]])
    if entry[4] == "run":
        words.extend([entry[5], entry[6]])
    return words


def shown_entry(entry):
    """The row of one entry."""
    if entry[0] == "ball":
        return " ".join(words_of_ball(entry))
    return " ".join(entry)
