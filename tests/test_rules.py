"""Rules and their text, as [4] tells, over rows as [3] tells."""

import itertools
import unittest

from inningsbook.errors import BadRow, BookError, Twice
from inningsbook.rules import read_rules, shown_rules

USUAL = (6, 0, 0, 1, 1, 11, 1, 0)
WORDS = ("over", "overs", "spell", "wide", "noball", "side", "innings", "follow")
BOUNDS = ((1, 12), (0, 99), (0, 99), (0, 9), (0, 9), (2, 11), (1, 2), (0, 999))
ALL_ROWS = ("over 8", "overs 50", "spell 10", "wide 2", "noball 3", "side 7", "innings 2", "follow 150")
ALL_RULES = (8, 50, 10, 2, 3, 7, 2, 150)


def usual_but(at, number):
    return USUAL[:at] + (number,) + USUAL[at + 1:]


class Refusing(unittest.TestCase):
    def refused(self, refusal, place, text):
        with self.subTest(text=text):
            with self.assertRaises(BookError) as caught:
                read_rules(text)
            self.assertIs(type(caught.exception), refusal)
            self.assertEqual(caught.exception.place, place)
            self.assertIs(type(caught.exception.place), int)


class Reading(unittest.TestCase):
    def test_no_row_at_all(self):
        for text in ("", "\n", "   ", "\n \n\n"):
            with self.subTest(text=text):
                self.assertEqual(read_rules(text), USUAL)

    def test_rules_are_a_tuple_of_whole_numbers(self):
        for text in ("", "innings 1\nwide 0", "\n".join(ALL_ROWS)):
            rules = read_rules(text)
            with self.subTest(text=text):
                self.assertIs(type(rules), tuple)
                self.assertEqual([type(number) for number in rules], [int] * 8)

    def test_one_row_of_each_kind(self):
        for at, row in enumerate(ALL_ROWS):
            with self.subTest(row=row):
                self.assertEqual(read_rules(row), usual_but(at, ALL_RULES[at]))

    def test_some_rows(self):
        self.assertEqual(read_rules("overs 20\nspell 4"), (6, 20, 4, 1, 1, 11, 1, 0))
        self.assertEqual(read_rules("follow 200\ninnings 2\nover 5"), (5, 0, 0, 1, 1, 11, 2, 200))

    def test_all_rows_in_any_order(self):
        turned = [ALL_ROWS[at:] + ALL_ROWS[:at] for at in range(8)]
        for rows in turned + [tuple(reversed(ALL_ROWS)), tuple(sorted(ALL_ROWS))]:
            with self.subTest(rows=rows):
                self.assertEqual(read_rules("\n".join(rows)), ALL_RULES)

    def test_three_rows_in_every_order(self):
        for rows in itertools.permutations(("over 4", "overs 5", "wide 0")):
            with self.subTest(rows=rows):
                self.assertEqual(read_rules("\n".join(rows)), (4, 5, 0, 0, 1, 11, 1, 0))

    def test_both_bounds(self):
        for at, word in enumerate(WORDS):
            for number in BOUNDS[at]:
                with self.subTest(word=word, number=number):
                    self.assertEqual(read_rules(f"{word} {number}"), usual_but(at, number))

    def test_blanks_ahead_behind_and_between(self):
        for row in ("   over 8", "over 8   ", "over     8", "  over  8  "):
            with self.subTest(row=row):
                self.assertEqual(read_rules(row), usual_but(0, 8))
        self.assertEqual(read_rules("  \n".join("   " + row.replace(" ", "   ") for row in ALL_ROWS)), ALL_RULES)

    def test_rows_without_a_word_are_passed_over(self):
        for text in ("\nover 8", "over 8\n", "over 8\n\n  \n", "  \n\nover 8\n "):
            with self.subTest(text=text):
                self.assertEqual(read_rules(text), usual_but(0, 8))
        self.assertEqual(read_rules("\n" + "\n   \n".join(ALL_ROWS) + "\n"), ALL_RULES)

    def test_long_texts(self):
        self.assertEqual(read_rules("\n" * 1999 + "over 8"), usual_but(0, 8))
        self.assertEqual(read_rules("over" + " " * 195 + "8"), usual_but(0, 8))

    def test_somewhat_longer_texts_are_not_refused(self):
        self.assertEqual(read_rules("\n" * 2500 + "over 8\n"), usual_but(0, 8))
        self.assertEqual(read_rules("over" + " " * 300 + "8"), usual_but(0, 8))

    def test_asked_again(self):
        text = "\n".join(ALL_ROWS)
        self.assertEqual([read_rules(asked) for asked in (text, "", text, "")], [ALL_RULES, USUAL, ALL_RULES, USUAL])

    def test_asked_again_behind_a_refusal(self):
        for text in ("over 8\nover 9", "wide 5\nwide"):
            with self.assertRaises(BookError):
                read_rules(text)
        self.assertEqual(read_rules(""), USUAL)
        self.assertEqual(read_rules("over 8"), usual_but(0, 8))


class BadRows(Refusing):
    def test_one_beyond_each_bound(self):
        for word, (least, most) in zip(WORDS, BOUNDS):
            self.refused(BadRow, 1, f"{word} {most + 1}")
            self.refused(BadRow, 1, f"{word} {least - 1}")

    def test_far_beyond_the_bounds(self):
        for word in WORDS:
            self.refused(BadRow, 1, f"{word} 9999")
            self.refused(BadRow, 1, f"{word} 10000")

    def test_too_few_or_too_many_words(self):
        for word in WORDS:
            self.refused(BadRow, 1, word)
            self.refused(BadRow, 1, f"{word} 2 2")
            self.refused(BadRow, 1, f"{word} 2 {word} 2")
        self.refused(BadRow, 1, "2")
        self.refused(BadRow, 1, "2 over")

    def test_no_such_word(self):
        for word in ("anna", "Over", "OVER", "ov", "overss", "team", "bat", "no", "ball", "6", "over,", "~"):
            self.refused(BadRow, 1, f"{word} 2")

    def test_no_number(self):
        written = ("two", "02", "00", "002", "+2", "-2", "-0", "2.", "2.0", "0_2", "2_", "1_1", "1,1", "x", "N", "~")
        for word in WORDS:
            for number in written:
                self.refused(BadRow, 1, f"{word} {number}")

    def test_word_and_number_must_be_parted(self):
        for row in ("over6", "over=6", "over_6", "over\t6", "over 6\t", "over 6\r"):
            self.refused(BadRow, 1, row)

    def test_a_word_may_not_be_parted_by_a_line_end(self):
        self.refused(BadRow, 1, "over\n6")

    def test_the_row_is_counted_with_those_without_a_word(self):
        self.refused(BadRow, 2, "over 6\nfoo")
        self.refused(BadRow, 3, "\n\nfoo")
        self.refused(BadRow, 5, "\nover 6\n   \n\n  foo  \n\n")
        self.refused(BadRow, 2000, "\n" * 1999 + "foo")


class ToldTwice(Refusing):
    def test_each_kind(self):
        for row in ALL_ROWS:
            self.refused(Twice, 2, f"{row}\n{row}")

    def test_with_another_number(self):
        for word, (least, most) in zip(WORDS, BOUNDS):
            self.refused(Twice, 2, f"{word} {least}\n{word} {most}")

    def test_what_holds_without_a_row_may_not_be_told_twice_either(self):
        for word, number in zip(WORDS, USUAL):
            self.assertEqual(read_rules(f"{word} {number}"), USUAL)
            self.refused(Twice, 2, f"{word} {number}\n{word} {number}")

    def test_with_others_between(self):
        self.refused(Twice, 9, "\n".join(ALL_ROWS + ("over 8",)))
        self.refused(Twice, 4, "wide 2\n\nnoball 2\n wide  2 \nover 6\n")

    def test_alike_words_are_two_kinds(self):
        self.assertEqual(read_rules("over 5\novers 5"), (5, 5, 0, 1, 1, 11, 1, 0))


class FirstOfTwo(Refusing):
    def test_two_bad_rows(self):
        self.refused(BadRow, 1, "foo\nover 0")
        self.refused(BadRow, 2, "over 6\nover 0\nfoo")

    def test_two_rows_told_before(self):
        self.refused(Twice, 2, "over 6\nover 6\nover 6")
        self.refused(Twice, 3, "over 6\nwide 1\nwide 1\nover 6")

    def test_a_bad_row_ahead_of_one_told_before(self):
        self.refused(BadRow, 2, "over 6\nfoo\nover 6")

    def test_one_told_before_ahead_of_a_bad_row(self):
        self.refused(Twice, 2, "over 6\nover 6\nfoo")

    def test_a_row_of_no_form_of_a_kind_told_before(self):
        for row in ("over", "over 0", "over 13", "over 06", "over six", "over 6 6"):
            self.refused(BadRow, 2, f"over 6\n{row}")

    def test_a_refused_kind_ahead_is_what_is_refused(self):
        self.refused(BadRow, 1, "over 13\nover 6")


class Showing(unittest.TestCase):
    def test_all_eight_rows_in_order(self):
        self.assertEqual(shown_rules(ALL_RULES), "\n".join(ALL_ROWS))
        self.assertEqual(
            shown_rules(USUAL), "over 6\novers 0\nspell 0\nwide 1\nnoball 1\nside 11\ninnings 1\nfollow 0"
        )

    def test_read_again_they_are_the_same(self):
        for rules in (USUAL, ALL_RULES, tuple(least for least, most in BOUNDS), tuple(most for least, most in BOUNDS)):
            with self.subTest(rules=rules):
                self.assertEqual(read_rules(shown_rules(rules)), rules)

    def test_every_number_read_again(self):
        for at, (least, most) in enumerate(BOUNDS):
            for number in range(least, most + 1):
                rules = usual_but(at, number)
                self.assertEqual(read_rules(shown_rules(rules)), rules)

    def test_what_was_read_may_be_shown(self):
        text = "follow 150\n\n innings  2\nover 8\novers 50\nspell 10\nwide 2\nnoball 3\nside 7\n"
        self.assertEqual(shown_rules(read_rules(text)), "\n".join(ALL_ROWS))

    def test_asked_again(self):
        shown = [shown_rules(rules) for rules in (ALL_RULES, USUAL, ALL_RULES)]
        self.assertEqual(shown[0], shown[2])
        self.assertNotEqual(shown[0], shown[1])


if __name__ == "__main__":
    unittest.main()
