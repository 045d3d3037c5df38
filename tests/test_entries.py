"""Entries and their text, as [6] tells, over rows as [3] tells and answers as [2] tells."""

import itertools
import unittest

from inningsbook.entries import read_entries, shown_entry
from inningsbook.errors import BadRow, BookError
from inningsbook.words import KEYWORDS

KINDS = ("bat", "bye", "leg", "wide", "no", "nobye")
PLAIN_WAYS = ("bowled", "caught", "before", "stumped", "hit")
ENDS = ("strike", "other")

# One of each sort but a ball.
PLAIN = (
    ("start reds anna bo cy", ("start", "reds", "anna", "bo", "cy")),
    ("in anna", ("in", "anna")),
    ("bowl cy", ("bowl", "cy")),
    ("hurt bo", ("hurt", "bo")),
    ("swap bo zed", ("swap", "bo", "zed")),
    ("declare", ("declare",)),
    ("follow", ("follow",)),
    ("close", ("close",)),
)

# What may stand behind a ball's runs and rope, with the tuple's last three.
OUTS = (
    [("", ("", "", ""))]
    + [(f" out {way}", (way, "", "")) for way in PLAIN_WAYS]
    + [(f" out run anna {end}", ("run", "anna", end)) for end in ENDS]
)


def all_balls():
    for kind, runs, rope, (words, out) in itertools.product(KINDS, range(10), (False, True), OUTS):
        row = f"{kind} {runs}" + (" rope" if rope else "") + words
        yield row, ("ball", kind, runs, rope) + out


NOT_NAMES = ("1", "0", "12", "a1", "Anna", "ANNA", "abcdefghi", "an-na", "anna,", "~")


class Refusing(unittest.TestCase):
    def refused(self, place, text):
        with self.subTest(text=text):
            with self.assertRaises(BookError) as caught:
                read_entries(text)
            self.assertIs(type(caught.exception), BadRow)
            self.assertEqual(caught.exception.place, place)
            self.assertIs(type(caught.exception.place), int)

    def bad(self, row):
        self.refused(1, row)
        self.refused(4, f"in anna\n\nbat 4 rope\n  {row} \nclose")


class Reading(unittest.TestCase):
    def read(self, row, entry):
        with self.subTest(row=row):
            told = read_entries(row)
            self.assertEqual(told, [entry])
            self.assertIs(type(told[0]), tuple)
            self.assertEqual([type(part) for part in told[0]], [type(part) for part in entry])

    def test_each_sort_but_a_ball(self):
        for row, entry in PLAIN:
            self.read(row, entry)

    def test_every_ball(self):
        count = 0
        for row, entry in all_balls():
            self.read(row, entry)
            count += 1
        self.assertEqual(count, 6 * 10 * 2 * 8)

    def test_balls_written_out(self):
        self.read("bat 0", ("ball", "bat", 0, False, "", "", ""))
        self.read("bat 6 rope", ("ball", "bat", 6, True, "", "", ""))
        self.read("bat 1 out run anna other", ("ball", "bat", 1, False, "run", "anna", "other"))
        self.read("wide 0 out stumped", ("ball", "wide", 0, False, "stumped", "", ""))
        self.read("leg 2 out run bo strike", ("ball", "leg", 2, False, "run", "bo", "strike"))
        self.read("nobye 4 rope", ("ball", "nobye", 4, True, "", "", ""))

    def test_balls_that_cannot_be_are_read(self):
        self.read("bat 3 rope", ("ball", "bat", 3, True, "", "", ""))
        self.read("no 0 out bowled", ("ball", "no", 0, False, "bowled", "", ""))
        self.read("bye 9 rope out caught", ("ball", "bye", 9, True, "caught", "", ""))
        self.read("wide 4 rope out run anna strike", ("ball", "wide", 4, True, "run", "anna", "strike"))

    def test_names_that_the_rules_would_not_let_are_read(self):
        self.read("start anna anna anna anna", ("start", "anna", "anna", "anna", "anna"))
        self.read("swap bo bo", ("swap", "bo", "bo"))

    def test_names_at_their_bounds(self):
        self.read("start a abcdefgh z zzzzzzzz", ("start", "a", "abcdefgh", "z", "zzzzzzzz"))
        self.read("in x", ("in", "x"))
        self.read("bat 0 out run abcdefgh strike", ("ball", "bat", 0, False, "run", "abcdefgh", "strike"))

    def test_words_of_entries_that_are_no_keywords_are_names(self):
        self.read("in ball", ("in", "ball"))
        self.read("swap ball way", ("swap", "ball", "way"))
        self.read("bat 0 out run ball other", ("ball", "bat", 0, False, "run", "ball", "other"))

    def test_no_row(self):
        for text in ("", " ", "\n", "\n  \n\n"):
            with self.subTest(text=text):
                self.assertEqual(read_entries(text), [])

    def test_many_rows_in_order(self):
        pairs = list(PLAIN) + list(all_balls())
        text = "\n".join(row for row, entry in pairs)
        told = read_entries(text)
        self.assertIs(type(told), list)
        self.assertEqual(told, [entry for row, entry in pairs])

    def test_rows_told_again(self):
        wanted = [("close",), ("close",), ("in", "bo"), ("in", "bo")]
        self.assertEqual(read_entries("close\nclose\nin bo\nin bo"), wanted)

    def test_blanks_ahead_behind_and_between(self):
        for row, entry in list(PLAIN) + list(all_balls())[::7]:
            for blanks in ("  ", "   "):
                self.read("  " + row.replace(" ", blanks) + "   ", entry)
                self.read(row.replace(" ", blanks, 1), entry)

    def test_rows_without_a_word_are_passed_over(self):
        text = "\n  \nstart reds anna bo cy\n\nbat 1\n   \n\ndeclare\n\n"
        wanted = [("start", "reds", "anna", "bo", "cy"), ("ball", "bat", 1, False, "", "", ""), ("declare",)]
        self.assertEqual(read_entries(text), wanted)

    def test_long_texts(self):
        self.assertEqual(read_entries("\n".join(["bat 1"] * 2000)), [("ball", "bat", 1, False, "", "", "")] * 2000)
        self.assertEqual(read_entries("in" + " " * 194 + "anna"), [("in", "anna")])


class BadRows(Refusing):
    def test_a_word_too_many(self):
        for row, entry in PLAIN:
            for word in ("anna", "1", "out", "rope"):
                self.bad(f"{row} {word}")

    def test_a_word_too_few(self):
        for row, entry in PLAIN:
            if len(entry) > 1:
                self.bad(row[:row.rindex(" ")])
                self.bad(row.split()[0])
                self.bad(row[row.index(" ") + 1:])

    def test_another_first_word(self):
        words = ("ball", "Bat", "BAT", "bats", "run", "out", "rope", "over", "team", "player", "noball", "nobyes")
        for word in words + ("byes", "legs", "wides", "leave", "1", "anna", "~", "bat,", "starts", "In", "closed"):
            self.bad(word)
            self.bad(f"{word} anna")
            self.bad(f"{word} 1")
            self.bad(f"{word} 4 rope")
            self.bad(f"{word} anna bo")
            self.bad(f"{word} reds anna bo cy")

    def test_a_tuple_of_a_ball_is_no_row(self):
        self.bad("ball bat 1")
        self.bad("ball bat 1 out run anna other")

    def test_every_keyword_alone(self):
        for word in KEYWORDS:
            if word not in ("declare", "follow", "close"):
                self.bad(word)

    def test_one_sort_with_the_words_of_another(self):
        for row in ("in 1", "bowl 1", "in anna bo", "bat anna", "swap bo", "start bo", "hurt bo cy", "declare anna"):
            self.bad(row)
        self.bad("start reds anna bo")
        self.bad("bat 1 close")
        self.bad("in anna in bo")

    def test_no_name_where_a_name_is_due(self):
        for row, entry in PLAIN:
            for at in range(1, len(entry)):
                for word in NOT_NAMES:
                    self.bad(" ".join(entry[:at] + (word,) + entry[at + 1:]))

    def test_a_keyword_as_a_name(self):
        for row, entry in PLAIN:
            for at in range(1, len(entry)):
                for word in KEYWORDS:
                    self.refused(1, " ".join(entry[:at] + (word,) + entry[at + 1:]))

    def test_the_row_that_is_refused_is_the_first(self):
        self.refused(2, "close\nfoo\nbar")
        self.refused(1, "bat\nfoo")
        self.refused(5, "\nin anna\n \nbat 1\nbat 10\n\nfoo")
        self.refused(2000, "\n" * 1999 + "foo")

    def test_a_row_may_not_go_on_behind_a_line_end(self):
        self.refused(1, "in\nanna")
        self.refused(2, "bat 1\nout bowled")

    def test_nothing_but_blanks_parts_words(self):
        for row in ("in\tanna", "in,anna", "bat\t1", "bat1", "bat 1\tout bowled", "close\t", "close\r"):
            self.bad(row)


class BadBalls(Refusing):
    def test_no_runs(self):
        for kind in KINDS:
            for row in (kind, f"{kind} rope", f"{kind} out bowled", f"{kind} rope 4", f"{kind} out run anna other"):
                self.bad(row)

    def test_no_number_from_nought_to_nine(self):
        for kind in KINDS:
            for runs in ("10", "11", "99", "100", "9999", "10000", "00", "01", "04", "09", "004", "010"):
                self.bad(f"{kind} {runs}")
            for runs in ("-1", "+1", "-0", "1.", "1.0", "1_1", "one", "anna", "x", "4rope", "~"):
                self.bad(f"{kind} {runs}")
        for words in (" rope", " out bowled", " out run anna other"):
            self.bad(f"bat 10{words}")
            self.bad(f"bat 04{words}")

    def test_words_too_many(self):
        for kind in KINDS:
            for words in ("4 4", "4 anna", "4 rope rope", "4 rope 4", "0 out bowled rope", "0 out bowled anna"):
                self.bad(f"{kind} {words}")
        self.bad("bat 0 out bowled anna strike")
        self.bad("bat 0 out run anna strike strike")
        self.bad("bat 0 out run anna strike other")
        self.bad("bat 0 out run anna bo strike")
        self.bad("bat 0 out out bowled")
        self.bad("bat 0 out bowled out caught")
        self.bad("bat 0 rope rope out bowled")

    def test_words_too_few(self):
        for kind in KINDS:
            for words in ("out", "out run", "out run anna", "out run strike", "bowled", "run anna strike"):
                self.bad(f"{kind} 0 {words}")
                self.bad(f"{kind} 4 rope {words}")

    def test_words_out_of_order(self):
        self.bad("1 bat")
        self.bad("rope bat 4")
        self.bad("bat 0 bowled out")
        self.bad("bat 0 out bowled rope")
        self.bad("bat 4 out run anna other rope")
        self.bad("bat 1 out run other anna")
        self.bad("bat 1 out anna run other")
        self.bad("out bowled bat 0")

    def test_no_such_way(self):
        for way in ("lbw", "Bowled", "runs", "stump", "out", "rope", "strike", "anna", "0", "hurt", "bat", "other"):
            self.bad(f"bat 0 out {way}")
            self.bad(f"bat 0 out {way} anna strike")

    def test_a_name_and_an_end_go_with_run_alone(self):
        for way in PLAIN_WAYS:
            self.bad(f"bat 0 out {way} anna")
            self.bad(f"bat 0 out {way} strike")
            self.bad(f"bat 0 out {way} anna strike")

    def test_no_such_end(self):
        for end in ("facing", "Strike", "strikes", "others", "anna", "1", "out", "run", "end"):
            self.bad(f"bat 1 out run anna {end}")

    def test_no_name_behind_run(self):
        for word in NOT_NAMES + KEYWORDS:
            self.bad(f"bat 1 out run {word} strike")

    def test_other_words_in_the_place_of_rope_and_out(self):
        for word in ("Rope", "ropes", "four", "six", "boundary", "anna", "no", "not"):
            self.bad(f"bat 4 {word}")
            self.bad(f"bat 0 {word} bowled")
            self.bad(f"bat 4 {word} out run anna other")


class Showing(unittest.TestCase):
    def shown(self, row, entry):
        with self.subTest(entry=entry):
            self.assertEqual(shown_entry(entry), row)
            self.assertEqual(read_entries(shown_entry(entry)), [entry])

    def test_each_sort_but_a_ball(self):
        for row, entry in PLAIN:
            self.shown(row, entry)

    def test_every_ball(self):
        for row, entry in all_balls():
            self.shown(row, entry)

    def test_balls_written_out(self):
        self.shown("bat 1 out run anna other", ("ball", "bat", 1, False, "run", "anna", "other"))
        self.shown("bat 4 rope", ("ball", "bat", 4, True, "", "", ""))
        self.shown("wide 0 out hit", ("ball", "wide", 0, False, "hit", "", ""))
        self.shown("no 6 rope out run bo strike", ("ball", "no", 6, True, "run", "bo", "strike"))
        self.shown("leg 9", ("ball", "leg", 9, False, "", "", ""))

    def test_what_was_read_may_be_shown(self):
        text = "\n start   reds  anna bo cy\n\nbat  4   rope \n leg 1  out  run bo   other\n"
        shown = [shown_entry(entry) for entry in read_entries(text)]
        self.assertEqual(shown, ["start reds anna bo cy", "bat 4 rope", "leg 1 out run bo other"])


class TheAskersOwn(unittest.TestCase):
    def test_changing_what_was_told_changes_no_later_answer(self):
        wanted = [("in", "anna"), ("close",)]
        told = read_entries("in anna\nclose")
        told.append(("declare",))
        told[0] = ("in", "bo")
        self.assertEqual(read_entries("in anna\nclose"), wanted)

    def test_what_was_told_stays_as_it_was(self):
        told = read_entries("in anna")
        read_entries("close")
        with self.assertRaises(BadRow):
            read_entries("in bo\nfoo")
        self.assertEqual(told, [("in", "anna")])

    def test_two_answers_are_two_lists(self):
        for text in ("", "close"):
            self.assertIsNot(read_entries(text), read_entries(text))

    def test_asked_again(self):
        rows = "bat 1\nin anna"
        self.assertEqual(read_entries(rows), read_entries(rows))
        self.assertEqual(read_entries(""), [])
        for row, entry in PLAIN:
            self.assertEqual([shown_entry(entry), shown_entry(entry)], [row, row])


if __name__ == "__main__":
    unittest.main()
