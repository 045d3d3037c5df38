"""Whole texts: a book told by texts, its sheet, and the sheet with an entry put right."""

from inningsbook.book import Book
from inningsbook.entries import entry_of_words, read_entries
from inningsbook.errors import BadRow, NotLet
from inningsbook.rules import SIDE_AT, read_rules
from inningsbook.sums import batters, bowlers, extras, pairs
from inningsbook.teams import read_teams
from inningsbook.words import numbered_rows


def booked(rules_text, teams_text, entries_text):
    """The book of the entries of a text, by the rules and the teams of two others."""
    rules = read_rules(rules_text)
    teams = read_teams(teams_text, rules[SIDE_AT])
    entries = read_entries(entries_text)
    book = Book(rules, teams)
    for number, entry in enumerate(entries):
        try:
            book.tell(entry)
        except NotLet as error:
            rule = error.rule
            raise NotLet(f"the rules don't let entry {number}: {rule}", rule, number) from error
    return book


def row_of(parts):
    """A row of words and numbers."""
    return " ".join([str(part) for part in parts])


def named(word, nothing):
    """A word, or what stands for it where it is empty."""
    return nothing if word == "" else word


def innings_rows(rules, told, balls):
    """The rows of one innings, by what the match tells of it and its balls."""
    rows = [("innings",) + told[:5] + (named(told[5], "going"),)]
    rows.extend([("bat",) + one[1:6] + (named(one[6], "not"),) for one in batters(rules, balls)])
    rows.extend([("bowl",) + one[1:] for one in bowlers(rules, balls)])
    rows.extend([("extras",) + one[1:] for one in extras(rules, balls)])
    rows.extend([("pair",) + one[1:] for one in pairs(rules, balls)])
    return rows


def sheet_of(book):
    """The sheet of a book."""
    own = book.match()
    log = own.log()
    rows = []
    for number, told in enumerate(own.innings()):
        rows.extend(innings_rows(book.rules, told, [ball for ball in log if ball[0] == number]))
    result = own.result()
    rows.append(("result",) + (("going",) if result is None else result))
    return "\n".join([row_of(row) for row in rows])


def sheet(rules_text, teams_text, entries_text):
    """The sheet of the entries of a text."""
    return sheet_of(booked(rules_text, teams_text, entries_text))


def only_entry(row):
    """The one entry that a row writes."""
    rows = numbered_rows(row)
    entry = entry_of_words(rows[0][1]) if len(rows) == 1 else None
    if entry is None:
        raise BadRow("this is not the row of one entry", 1)
    return entry


def righted(rules_text, teams_text, entries_text, number, row):
    """The sheet with the entry of that number put right by a row, or a row `falls` where not all entries stand."""
    book = booked(rules_text, teams_text, entries_text)
    fall = book.put_right(number, only_entry(row))
    return sheet_of(book) if fall is None else row_of(("falls",) + fall)
