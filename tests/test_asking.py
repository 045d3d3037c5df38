"""Whole texts, as [23] tells."""

import unittest

from inningsbook.asking import booked, righted, sheet
from inningsbook.book import Book
from inningsbook.entries import read_entries
from inningsbook.errors import BadRow, BookError, Misplaced, NoEntry, NotLet, Twice, Unfinished
from telling import all_told, match_of

RULES = "side 4\nover 2\nwide 2\nnoball 3"
TEAMS = """team reds
player a
player b
player c
player d
team blues
player p
player q
player r
player s"""
ENTRIES = """start reds a b p
bat 1
wide 0
no 4 rope
bat 0 out caught
in c
bowl q
leg 1
bat 6 rope"""


def text_of(*rows):
    return "\n".join(rows)


class Asking(unittest.TestCase):
    def refused(self, refusal, fields, ask, *texts):
        with self.subTest(texts=texts):
            with self.assertRaises(BookError) as caught:
                ask(*texts)
            self.assertIs(type(caught.exception), refusal)
            self.assertEqual({name: getattr(caught.exception, name) for name in fields}, fields)


class Refusals(Asking):
    """What goes wrong in the three texts, alike for all three questions."""

    def each(self, refusal, fields, *texts):
        self.refused(refusal, fields, booked, *texts)
        self.refused(refusal, fields, sheet, *texts)
        self.refused(refusal, fields, righted, *texts, 0, "close")
        # The texts are read ahead of the number and the row.
        self.refused(refusal, fields, righted, *texts, 99, "x")

    def test_rules(self):
        self.each(BadRow, {"place": 2}, "side 4\nover 13", TEAMS, ENTRIES)
        self.each(Twice, {"place": 2}, "side 4\nside 4", TEAMS, ENTRIES)

    def test_teams(self):
        self.each(BadRow, {"place": 1}, RULES, "teams x", ENTRIES)
        self.each(Misplaced, {"place": 1}, RULES, "player a", ENTRIES)
        self.each(Twice, {"place": 3}, RULES, "team a\nplayer a\nplayer a", ENTRIES)
        self.each(Unfinished, {"place": 1}, RULES, "", ENTRIES)

    def test_the_side_of_the_rules_holds(self):
        self.each(Misplaced, {"place": 5}, "side 3", TEAMS, ENTRIES)
        self.each(Misplaced, {"place": 6}, "", TEAMS, ENTRIES)
        self.each(Unfinished, {"place": 10}, "side 4", TEAMS.replace("\nplayer s", "\n"), ENTRIES)

    def test_entries(self):
        self.each(BadRow, {"place": 3}, RULES, TEAMS, "start reds a b p\nbat 1\nbat 10")

    def test_the_texts_go_in_their_order(self):
        self.each(BadRow, {"place": 1}, "x", "\n\nx", "\n\n\nx")
        self.each(BadRow, {"place": 3}, RULES, "\n\nx", "\n\n\nx")
        self.each(BadRow, {"place": 4}, RULES, TEAMS, "\n\n\nx")

    def test_entries_are_read_ahead_of_what_is_let(self):
        self.each(BadRow, {"place": 2}, RULES, TEAMS, "bat 0\nx")

    def test_not_let(self):
        self.each(NotLet, {"rule": "none", "number": 0}, RULES, TEAMS, "bat 0\nbat 0")
        self.each(NotLet, {"rule": "bowler", "number": 3}, RULES, TEAMS, "start reds a b p\nbat 0\nbat 0\nbat 0\nin x")
        self.each(NotLet, {"rule": "done", "number": 1}, RULES, TEAMS, "close\nclose")

    def test_the_number_is_that_of_the_entry_not_of_the_row(self):
        self.each(NotLet, {"rule": "full", "number": 1}, RULES, TEAMS, "\n\nstart reds a b p\n \n\nin c\n")


class Booked(Asking):
    def test_a_book(self):
        book = booked(RULES, TEAMS, ENTRIES)
        self.assertIs(type(book), Book)
        self.assertEqual(book.entries(), read_entries(ENTRIES))
        self.assertEqual(all_told(book.match()), all_told(match_of(RULES[7:], *ENTRIES.split("\n"))))

    def test_no_entry(self):
        book = booked(RULES, TEAMS, "")
        self.assertEqual(book.entries(), [])
        self.assertIsNone(book.match().state())

    def test_the_rules_that_usually_hold(self):
        rows = ["team reds"] + ["player x" + letter for letter in "abcdefghijk"]
        rows += ["team blues"] + ["player y" + letter for letter in "abcdefghijk"]
        book = booked("", text_of(*rows), "start reds xa xb ya\nwide 0")
        self.assertEqual(book.match().state(), ("reds", "xa", "xb", "ya", 1, 0, 0, 0))

    def test_it_may_be_put_right(self):
        book = booked(RULES, TEAMS, ENTRIES)
        self.assertIsNone(book.put_right(1, ("ball", "bat", 2, False, "", "", "")))
        self.assertEqual(book.put_right(0, ("close",)), (1, "done"))

    def test_two_books_are_apart(self):
        one = booked(RULES, TEAMS, ENTRIES)
        one.tell(("close",))
        self.assertEqual(booked(RULES, TEAMS, ENTRIES).entries(), read_entries(ENTRIES))


class Sheet(Asking):
    def test_no_innings(self):
        self.assertEqual(sheet(RULES, TEAMS, ""), "result going")
        self.assertEqual(sheet(RULES, TEAMS, "swap a e"), "result going")
        self.assertEqual(sheet(RULES, TEAMS, "close"), "result closed")

    def test_an_innings_under_way(self):
        self.assertEqual(sheet(RULES, TEAMS, ENTRIES), text_of(
            "innings reds 17 1 2 0 going",
            "bat a 1 2 0 0 not",
            "bat b 4 2 1 0 caught",
            "bat c 6 1 0 1 not",
            "bowl p 2 10 1 1 1",
            "bowl q 2 6 0 0 0",
            "extras 0 1 2 3",
            "pair a b 10 2",
            "pair a c 7 2",
            "result going",
        ))

    def test_an_innings_without_a_ball(self):
        for entries, wanted in (
            ("start reds a b p", "innings reds 0 0 0 0 going\nresult going"),
            ("start reds a b p\ndeclare", "innings reds 0 0 0 0 declared\nresult going"),
            ("start blues p q a\nclose", "innings blues 0 0 0 0 closed\nresult closed"),
        ):
            self.assertEqual(sheet(RULES, TEAMS, entries), wanted)

    def test_an_innings_without_extras(self):
        self.assertEqual(sheet(RULES, TEAMS, "start reds b a p\nbat 0"), text_of(
            "innings reds 0 0 0 1 going", "bat b 0 1 0 0 not", "bat a 0 0 0 0 not", "bowl p 1 0 0 0 0",
            "extras 0 0 0 0", "pair a b 0 1", "result going",
        ))

    def test_a_match_that_is_won(self):
        entries = text_of("start reds a b p", "bat 1", "bat 0 out bowled", "in c", "bowl q", "bat 2 out run c other",
                          "in d", "bat 0 out before", "start blues p q a", "nobye 2")
        self.assertEqual(sheet(RULES, TEAMS, entries), text_of(
            "innings reds 3 3 2 0 out",
            "bat a 3 3 0 0 before",
            "bat b 0 1 0 0 bowled",
            "bat c 0 0 0 0 run",
            "bat d 0 0 0 0 not",
            "bowl p 2 1 1 0 0",
            "bowl q 2 2 1 0 0",
            "extras 0 0 0 0",
            "pair a b 1 2",
            "pair a c 2 1",
            "pair a d 0 1",
            "innings blues 5 0 0 0 won",
            "bat p 0 1 0 0 not",
            "bat q 0 0 0 0 not",
            "bowl a 0 3 0 0 1",
            "extras 2 0 0 3",
            "pair p q 5 0",
            "result won blues",
        ))

    def test_overs_and_a_tie(self):
        entries = text_of("start blues p q a", "bye 1", "bat 0", "start reds a b p", "bat 0", "leg 1")
        self.assertEqual(sheet(RULES + "\novers 1", TEAMS, entries), text_of(
            "innings blues 1 0 1 0 overs",
            "bat p 0 1 0 0 not",
            "bat q 0 1 0 0 not",
            "bowl a 2 0 0 0 0",
            "extras 1 0 0 0",
            "pair p q 1 2",
            "innings reds 1 0 1 0 overs",
            "bat a 0 2 0 0 not",
            "bat b 0 0 0 0 not",
            "bowl p 2 0 0 0 0",
            "extras 0 1 0 0",
            "pair a b 1 2",
            "result tie",
        ))

    def test_closed_in_the_second_innings(self):
        entries = text_of("start reds a b p", "bat 4 rope", "declare", "start blues p q a", "wide 1", "close")
        self.assertEqual(sheet(RULES, TEAMS, entries), text_of(
            "innings reds 4 0 0 1 declared", "bat a 4 1 1 0 not", "bat b 0 0 0 0 not", "bowl p 1 4 0 0 0",
            "extras 0 0 0 0", "pair a b 4 1",
            "innings blues 3 0 0 0 closed", "bat p 0 0 0 0 not", "bat q 0 0 0 0 not", "bowl a 0 3 0 1 0",
            "extras 0 0 3 0", "pair p q 3 0",
            "result closed",
        ))

    def test_three_of_four_innings_with_a_follow_on(self):
        entries = text_of("start reds a b p", "bat 6 rope", "declare", "start blues p q a", "declare", "follow",
                          "start blues q p a", "bat 2", "declare")
        self.assertEqual(sheet(RULES + "\ninnings 2\nfollow 6", TEAMS, entries), text_of(
            "innings reds 6 0 0 1 declared", "bat a 6 1 0 1 not", "bat b 0 0 0 0 not", "bowl p 1 6 0 0 0",
            "extras 0 0 0 0", "pair a b 6 1",
            "innings blues 0 0 0 0 declared",
            "innings blues 2 0 0 1 declared", "bat q 2 1 0 0 not", "bat p 0 0 0 0 not", "bowl a 1 2 0 0 0",
            "extras 0 0 0 0", "pair p q 2 1",
            "result won reds",
        ))

    def test_pairs_that_come_again(self):
        entries = text_of("start reds a b p", "wide 0", "hurt a", "in c", "wide 0", "hurt c", "in a", "wide 0")
        told = sheet(RULES, TEAMS, entries).split("\n")
        self.assertEqual(told[-4:], ["pair a b 2 0", "pair b c 2 0", "pair a b 2 0", "result going"])

    def test_names_of_a_swapped_player(self):
        entries = text_of("start reds a b p", "bat 0 out bowled", "swap a e", "in c")
        self.assertIn("\nbat a 0 1 0 0 bowled\n", sheet(RULES, TEAMS, entries))
        self.assertNotIn(" e ", sheet(RULES, TEAMS, entries))

    def test_loose_texts(self):
        loose = "\n  " + ENTRIES.replace(" ", "   ").replace("\n", " \n\n ") + "\n"
        told = sheet(" " + RULES.replace(" ", "  ") + "\n", "\n" + TEAMS, loose)
        self.assertEqual(told, sheet(RULES, TEAMS, ENTRIES))

    def test_asked_again(self):
        self.assertEqual(sheet(RULES, TEAMS, ENTRIES), sheet(RULES, TEAMS, ENTRIES))
        self.assertIs(type(sheet(RULES, TEAMS, ENTRIES)), str)


class Righted(Asking):
    def righted(self, number, row, entries=ENTRIES):
        return righted(RULES, TEAMS, entries, number, row)

    def test_the_sheet_of_the_entries_then(self):
        rows = ENTRIES.split("\n")
        for number, row in ((0, "start reds a b r"), (1, "leg 3"), (2, "no 6 rope"), (3, "wide 2"), (5, "in d"),
                            (8, "bat 0 out hit"), (8, "wide 1")):
            with self.subTest(number=number, row=row):
                entries = text_of(*rows[:number], row, *rows[number + 1:])
                self.assertEqual(self.righted(number, row), sheet(RULES, TEAMS, entries))

    def test_a_whole_sheet(self):
        self.assertEqual(self.righted(1, "bat 2", "start reds a b p\nbat 1\nwide 0"), text_of(
            "innings reds 4 0 0 1 going", "bat a 2 1 0 0 not", "bat b 0 0 0 0 not", "bowl p 1 4 0 1 0",
            "extras 0 0 2 0", "pair a b 4 1", "result going",
        ))

    def test_falls(self):
        self.assertEqual(self.righted(0, "start reds b a q"), "falls 6 twice")
        self.assertEqual(self.righted(0, "close"), "falls 1 done")
        self.assertEqual(self.righted(1, "wide 1"), "falls 6 bowling")
        self.assertEqual(self.righted(4, "bat 0"), "falls 5 full")
        self.assertEqual(self.righted(5, "in b"), "falls 5 out")
        self.assertEqual(self.righted(8, "bat 6 rope out run a other"), "falls 8 way")

    def test_a_row_with_loose_blanks(self):
        entries = "start reds a b p\nbat 1"
        wanted = sheet(RULES, TEAMS, "start reds a b p\nbat 2")
        for row in ("bat 2", "  bat   2 ", "bat 2\n", "\nbat 2", "\n  \n bat 2\n\n"):
            with self.subTest(row=row):
                self.assertEqual(self.righted(1, row, entries), wanted)

    def test_a_row_that_writes_none(self):
        for row in ("", "   ", "\n", " \n \n", "x", "bat", "bat 10", "in", "\nx", "\n\nbat 2 ropes", "bat 1 bat 2"):
            self.refused(BadRow, {"place": 1}, righted, RULES, TEAMS, ENTRIES, 1, row)

    def test_a_row_that_writes_more_than_one(self):
        for row in ("bat 1\nbat 2", "bat 1\nbat 1", "bat 1\nx", "x\nbat 1", "\nbat 1\n\n\nbat 2", "close\nclose"):
            self.refused(BadRow, {"place": 1}, righted, RULES, TEAMS, ENTRIES, 1, row)

    def test_no_such_entry(self):
        for number in (-1, -9, 9, 10, 2000):
            self.refused(NoEntry, {"number": number}, righted, RULES, TEAMS, ENTRIES, number, "bat 1")
        self.refused(NoEntry, {"number": 0}, righted, RULES, TEAMS, "", 0, "start reds a b p")

    def test_a_bad_row_goes_ahead_of_no_entry(self):
        for number in (-1, 9, 2000):
            self.refused(BadRow, {"place": 1}, righted, RULES, TEAMS, ENTRIES, number, "x")
            self.refused(BadRow, {"place": 1}, righted, RULES, TEAMS, ENTRIES, number, "bat 1\nbat 1")

    def test_asked_again(self):
        self.assertEqual(self.righted(1, "leg 3"), self.righted(1, "leg 3"))
        self.assertEqual(self.righted(4, "bat 0"), self.righted(4, "bat 0"))


if __name__ == "__main__":
    unittest.main()
