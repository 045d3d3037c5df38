"""The book, as [18] tells, and what [2] asks of it."""

import copy
import unittest

from inningsbook.book import Book
from inningsbook.entries import read_entries
from inningsbook.errors import BookError, NoEntry, NotLet
from inningsbook.match import Match
from telling import all_told, rules_of, teams_of, tell_rows

RULES = rules_of("over 2\nspell 2")
ROWS = ("start reds a b p", "bat 1", "bat 4 rope", "swap d e", "bowl q", "bat 0 out bowled", "in e", "wide 1", "hurt e",
        "in c", "no 2", "declare", "start blues p r a", "bat 3")
START = ("start", "reds", "a", "b", "p")


def entry_of(row):
    return read_entries(row)[0]


def book_of(*rows):
    return tell_rows(Book(RULES, teams_of()), *rows)


def match_told(entries):
    match = Match(RULES, teams_of())
    for entry in entries:
        match.tell(entry)
    return match


def first_fall(entries):
    """The pair of the first entry that can't stand, or None, by a match alone."""
    match = Match(RULES, teams_of())
    for number, entry in enumerate(entries):
        try:
            match.tell(entry)
        except NotLet as error:
            return (number, error.rule)
    return None


class Booking(unittest.TestCase):
    def holds(self, book, entries):
        """The book keeps these entries, and all that is told is as if they had been told so at once."""
        self.assertEqual(book.entries(), entries)
        self.assertEqual(all_told(book.match()), all_told(match_told(entries)))
        # What comes next is refused or done likewise.
        for row in ("bat 1", "in d", "in e", "bowl r", "swap e f", "declare", "start blues p r b", "bowl p"):
            ahead = copy.deepcopy(book)
            told = first_fall(entries + [entry_of(row)])
            if told is None:
                tell_rows(ahead, row)
                self.assertEqual(all_told(ahead.match()), all_told(match_told(entries + [entry_of(row)])))
            else:
                with self.assertRaises(NotLet) as caught:
                    tell_rows(ahead, row)
                self.assertEqual(caught.exception.rule, told[1])

    def no_entry(self, number, ask, *more):
        with self.subTest(number=number, ask=ask):
            with self.assertRaises(BookError) as caught:
                ask(number, *more)
            self.assertIs(type(caught.exception), NoEntry)
            self.assertEqual(caught.exception.number, number)


class Telling(Booking):
    def test_no_entries_at_first(self):
        book = book_of()
        self.assertEqual(book.entries(), [])
        self.assertIs(type(book.match()), Match)
        self.assertEqual(all_told(book.match()), (None, [], "", teams_of(), None, []))

    def test_entries_are_kept_in_order(self):
        entries = [entry_of(row) for row in ROWS]
        book = book_of()
        for count, entry in enumerate(entries, start=1):
            book.tell(entry)
            self.assertEqual(book.entries(), entries[:count])
            self.assertEqual(all_told(book.match()), all_told(match_told(entries[:count])))
        self.assertIs(type(book.entries()), list)

    def test_a_refused_entry_is_not_kept(self):
        book = book_of(*ROWS[:3])
        for row, rule in (("bat 0", "bowler"), ("start reds a b p", "going"), ("bowl p", "twice"), ("in c", "full"),
                          ("follow", "going"), ("swap a e", "there")):
            with self.subTest(row=row):
                with self.assertRaises(BookError) as caught:
                    tell_rows(book, row)
                self.assertIs(type(caught.exception), NotLet)
                self.assertEqual((caught.exception.rule, caught.exception.number), (rule, 0))
                self.holds(book, [entry_of(row) for row in ROWS[:3]])

    def test_done(self):
        book = book_of("close")
        with self.assertRaises(NotLet) as caught:
            tell_rows(book, "close")
        self.assertEqual((caught.exception.rule, caught.exception.number), ("done", 0))
        self.assertEqual(book.entries(), [("close",)])


class PutRight(Booking):
    def test_where_all_stand(self):
        book = book_of("start reds a b p", "bat 1", "bat 0")
        self.assertIsNone(book.put_right(1, entry_of("bat 2")))
        self.holds(book, read_entries("start reds a b p\nbat 2\nbat 0"))
        self.assertEqual(book.match().state(), ("reds", "b", "a", "", 2, 0, 1, 0))

    def test_the_first_and_the_last(self):
        book = book_of("start reds a b p", "bat 1", "bat 0")
        self.assertIsNone(book.put_right(0, entry_of("start blues q p c")))
        self.holds(book, read_entries("start blues q p c\nbat 1\nbat 0"))
        self.assertIsNone(book.put_right(2, entry_of("hurt p")))
        self.holds(book, read_entries("start blues q p c\nbat 1\nhurt p"))

    def test_where_one_cannot(self):
        book = book_of(*ROWS)
        kept = book.entries()
        for number, row, wanted in (
            (0, "bat 1", (0, "none")),
            (0, "start blues p q a", (4, "team")),
            (1, "bat 3 rope", (1, "rope")),
            (1, "wide 1", (4, "bowling")),
            (3, "swap d f", (6, "team")),
            (4, "bowl p", (4, "twice")),
            (5, "bat 0", (6, "full")),
            (13, "in q", (13, "full")),
            (2, "close", (3, "done")),
        ):
            with self.subTest(number=number, row=row):
                told = book.put_right(number, entry_of(row))
                self.assertEqual(told, wanted)
                self.assertEqual((type(told), type(told[0]), type(told[1])), (tuple, int, str))
                self.holds(book, kept)

    def test_no_such_entry(self):
        book = book_of(*ROWS[:3])
        for number in (-1, -3, 3, 4, 99):
            self.no_entry(number, book.put_right, entry_of("bat 1"))
            self.no_entry(number, book.put_right, entry_of("bat 3 rope"))
        self.holds(book, read_entries("\n".join(ROWS[:3])))
        self.no_entry(0, book_of().put_right, START)

    def test_by_itself(self):
        book = book_of(*ROWS)
        for number, row in enumerate(ROWS):
            self.assertIsNone(book.put_right(number, entry_of(row)))
        self.holds(book, [entry_of(row) for row in ROWS])


class PutIn(Booking):
    def test_at_each_place(self):
        for number in (1, 2, 3):
            book = book_of("start reds a b p", "wide 1", "wide 3")
            self.assertIsNone(book.put_in(number, entry_of("no 1")))
            rows = ["start reds a b p", "wide 1", "wide 3"]
            rows.insert(number, "no 1")
            self.holds(book, [entry_of(row) for row in rows])

    def test_ahead_of_all(self):
        book = book_of("start reds a b p", "bat 1")
        self.assertEqual(book.put_in(0, entry_of("bat 1")), (0, "none"))
        self.assertIsNone(book.put_in(0, entry_of("swap c f")))
        self.holds(book, read_entries("swap c f\nstart reds a b p\nbat 1"))

    def test_behind_all(self):
        book = book_of("start reds a b p", "bat 1")
        self.assertIsNone(book.put_in(2, entry_of("bat 3")))
        self.holds(book, read_entries("start reds a b p\nbat 1\nbat 3"))
        self.assertEqual(book.put_in(3, entry_of("bat 3")), (3, "bowler"))

    def test_into_an_empty_book(self):
        book = book_of()
        self.assertIsNone(book.put_in(0, START))
        self.holds(book, [START])

    def test_where_one_cannot(self):
        book = book_of(*ROWS)
        kept = book.entries()
        for number, row, wanted in (
            (1, "bat 0", (3, "bowler")),
            (5, "hurt b", (6, "empty")),
            (13, "close", (14, "done")),
            (14, "in s", (14, "full")),
            (0, "close", (1, "done")),
        ):
            with self.subTest(number=number, row=row):
                self.assertEqual(book.put_in(number, entry_of(row)), wanted)
                self.holds(book, kept)

    def test_no_such_entry(self):
        book = book_of(*ROWS[:3])
        for number in (-1, -3, 4, 5, 99):
            self.no_entry(number, book.put_in, entry_of("swap c f"))
        self.holds(book, read_entries("\n".join(ROWS[:3])))
        self.no_entry(1, book_of().put_in, START)
        self.no_entry(-1, book_of().put_in, START)


class TakeOut(Booking):
    def test_where_all_stand(self):
        book = book_of("start reds a b p", "bat 1", "wide 2", "bat 0")
        self.assertIsNone(book.take_out(1))
        self.holds(book, read_entries("start reds a b p\nwide 2\nbat 0"))
        self.assertIsNone(book.take_out(2))
        self.holds(book, read_entries("start reds a b p\nwide 2"))

    def test_all_one_behind_the_other(self):
        book = book_of(*ROWS)
        for number in reversed(range(len(ROWS))):
            self.assertIsNone(book.take_out(number))
        self.holds(book, [])

    def test_where_one_cannot(self):
        book = book_of(*ROWS)
        kept = book.entries()
        for number, wanted in ((0, (0, "none")), (1, (3, "bowling")), (3, (5, "team")), (5, (5, "full")),
                               (11, (11, "going")), (12, (12, "none"))):
            with self.subTest(number=number):
                self.assertEqual(book.take_out(number), wanted)
                self.holds(book, kept)

    def test_no_such_entry(self):
        book = book_of(*ROWS[:3])
        for number in (-1, -3, 3, 4, 99):
            self.no_entry(number, book.take_out)
        self.holds(book, read_entries("\n".join(ROWS[:3])))
        self.no_entry(0, book_of().take_out)


class EveryChange(Booking):
    def test_each_number_with_many_entries(self):
        kept = [entry_of(row) for row in ROWS]
        rows = ("bat 0", "bat 1", "wide 1", "bat 0 out caught", "bat 1 out run b strike", "bat 6 rope", "in d", "in e",
                "bowl q", "bowl r", "hurt a", "swap c f", "declare", "close", "follow", "start blues p q a")
        for row in rows:
            entry = entry_of(row)
            for number in range(len(kept) + 1):
                changes = [("put_in", kept[:number] + [entry] + kept[number:], (number, entry))]
                if number < len(kept):
                    changes.append(("put_right", kept[:number] + [entry] + kept[number + 1:], (number, entry)))
                    changes.append(("take_out", kept[:number] + kept[number + 1:], (number,)))
                for change, tried, asked in changes:
                    book = book_of(*ROWS)
                    told = getattr(book, change)(*asked)
                    with self.subTest(change=change, asked=asked):
                        self.assertEqual(told, first_fall(tried))
                        self.assertEqual(book.entries(), tried if told is None else kept)
                        self.assertEqual(all_told(book.match()), all_told(match_told(book.entries())))

    def test_changes_behind_changes(self):
        book = book_of("start reds a b p", "bat 1")
        book.put_in(1, entry_of("swap c f"))
        self.assertEqual(book.put_right(1, entry_of("swap b f")), (1, "there"))
        book.take_out(2)
        tell_rows(book, "bat 0 out bowled", "in f")
        self.holds(book, read_entries("start reds a b p\nswap c f\nbat 0 out bowled\nin f"))
        self.assertEqual(book.take_out(1), (2, "team"))
        self.holds(book, read_entries("start reds a b p\nswap c f\nbat 0 out bowled\nin f"))


class OwnLists(Booking):
    def test_a_told_list_changed_later(self):
        book = book_of(*ROWS)
        told = book.entries()
        told.clear()
        self.holds(book, [entry_of(row) for row in ROWS])
        told = book.entries()
        tell_rows(book, "bat 0")
        book.take_out(14)
        book.put_right(13, entry_of("bat 2"))
        self.assertEqual(told, [entry_of(row) for row in ROWS])

    def test_a_told_list_behind_each_change(self):
        book = book_of("start reds a b p", "bat 1")
        for change, asked in ((book.put_in, (1, ("swap", "c", "f"))), (book.put_right, (2, entry_of("bat 2"))),
                              (book.take_out, (1,))):
            change(*asked)
            before = book.entries()
            book.entries().append(("close",))
            self.assertEqual(book.entries(), before)

    def test_a_told_match_is_the_askers_own(self):
        book = book_of(*ROWS)
        match = book.match()
        before = copy.deepcopy(all_told(match))
        tell_rows(book, "bat 0", "close")
        self.assertEqual(all_told(match), before)
        other = book_of(*ROWS)
        tell_rows(other.match(), "close")
        self.holds(other, [entry_of(row) for row in ROWS])
        self.assertIsNot(other.match(), other.match())

    def test_what_was_handed_in_stays(self):
        teams = teams_of()
        entries = [entry_of(row) for row in ROWS]
        book = Book(RULES, teams)
        for entry in entries:
            book.tell(entry)
        book.put_in(0, ("swap", "s", "h"))
        self.assertEqual(teams, teams_of())
        self.assertEqual(entries, [entry_of(row) for row in ROWS])

    def test_what_becomes_of_what_was_handed_in(self):
        teams = teams_of()
        book = Book(RULES, teams)
        tell_rows(book, "start reds a b p")
        teams[0][1].clear()
        teams[1][1][0] = "z"
        teams.pop()
        self.holds(book, [START])
        self.assertIsNone(book.put_right(0, ("start", "blues", "p", "q", "a")))
        self.holds(book, [("start", "blues", "p", "q", "a")])

    def test_what_was_told_may_be_handed_in_again(self):
        book = book_of(*ROWS)
        again = Book(RULES, teams_of())
        for entry in book.entries():
            again.tell(entry)
        self.holds(again, book.entries())
        Book(RULES, book.match().players())

    def test_two_books_are_apart(self):
        teams = teams_of()
        one = Book(RULES, teams)
        two = Book(RULES, teams)
        tell_rows(one, "swap a f", "close")
        self.holds(two, [])


if __name__ == "__main__":
    unittest.main()
