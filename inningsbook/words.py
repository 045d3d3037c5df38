"""Rows, their words, and the two kinds of words that are no keywords."""

LETTERS = "abcdefghijklmnopqrstuvwxyz"
FIGURES = "0123456789"
MOST_LETTERS = 8
MOST_FIGURES = 4

KEYWORDS = (
    "over", "overs", "spell", "wide", "noball", "side", "innings", "follow",
    "team", "player", "start",
    "bat", "bye", "leg", "no", "nobye", "rope",
    "out", "bowled", "caught", "before", "stumped", "hit", "run", "strike", "other",
    "in", "bowl", "hurt", "swap", "declare", "close",
    "left", "played", "points", "breaker",
)


def made_of(word, signs, most):
    """Whether a word has one sign to `most` signs, all of them among `signs`."""
    return 1 <= len(word) <= most and all([sign in signs for sign in word])


def is_name(word):
    """Whether a word is a NAME."""
    return made_of(word, LETTERS, MOST_LETTERS) and word not in KEYWORDS


def number_in(word):
    """The number that a NUMBER writes, or None where the word is none."""
    # int alone would also take signs, blanks, strokes and figures of other scripts.
    if not made_of(word, FIGURES, MOST_FIGURES):
        return None
    if word[0] == "0" and word != "0":
        return None
    return int(word)


def words_of(row):
    """The words of a row, which blanks alone part."""
    return [word for word in row.split(" ") if word != ""]


def numbered_rows(text):
    """A list of pairs (number, words), one for each row that has a word."""
    rows = []
    # Rows without a word are passed over but counted, so the numbers come first.
    for number, row in enumerate(text.split("\n"), start=1):
        words = words_of(row)
        if len(words) > 0:
            rows.append((number, words))
    return rows


def row_count(text):
    """How many rows a text has, those without a word counted."""
    return len(text.split("\n"))
