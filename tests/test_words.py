"""NAME, NUMBER, and rows with their numbers and words, as [3] tells."""

import string
import unittest

from inningsbook.words import is_name, number_in, numbered_rows, row_count

KEYWORDS = (
    "over overs spell wide noball side innings follow team player start bat bye leg no nobye rope out bowled "
    "caught before stumped hit run strike other in bowl hurt swap declare close left played points breaker"
).split()

# Every sign that a text may have and no name may.
OTHER_SIGNS = [chr(code) for code in range(32, 127) if chr(code) not in string.ascii_lowercase]
BEYOND = ["\n", "\t", "\r", "\u00e9", "\u0430", "\u00aa", "\u0131"]


class Names(unittest.TestCase):
    def test_one_to_eight_small_letters(self):
        for word in ("x", "ab", "anna", "zzzzzzz", "abcdefgh", "qrstuvwx"):
            with self.subTest(word=word):
                self.assertIs(is_name(word), True)

    def test_each_letter_alone(self):
        for letter in string.ascii_lowercase:
            with self.subTest(letter=letter):
                self.assertIs(is_name(letter), True)

    def test_no_letter(self):
        self.assertIs(is_name(""), False)

    def test_more_than_eight_letters(self):
        for word in ("abcdefghi", "zzzzzzzzz", "a" * 200):
            with self.subTest(word=word):
                self.assertIs(is_name(word), False)

    def test_keywords(self):
        self.assertEqual(len(KEYWORDS), 36)
        for word in KEYWORDS:
            with self.subTest(word=word):
                self.assertIs(is_name(word), False)

    def test_nearly_keywords(self):
        for word in KEYWORDS:
            for near in (word + "q", "q" + word, word[:-1] + "q"):
                with self.subTest(near=near):
                    self.assertIs(is_name(near), True)

    def test_words_of_the_book_that_are_no_keywords(self):
        words = (
            "ball bowls balls runs way who end wins rate name win tie loss going none done turn alike empty bowler "
            "full there bowling twice spells fair won closed declared extras pair result falls not row"
        )
        for word in words.split():
            with self.subTest(word=word):
                self.assertIs(is_name(word), True)

    def test_any_other_sign_anywhere(self):
        for sign in OTHER_SIGNS + BEYOND:
            for word in (sign, sign + "anna", "an" + sign + "na", "anna" + sign):
                with self.subTest(word=word):
                    self.assertIs(is_name(word), False)

    def test_great_letters_of_keywords(self):
        for word in ("Over", "OVER", "oveR", "ANNA"):
            with self.subTest(word=word):
                self.assertIs(is_name(word), False)

    def test_asked_again(self):
        for word in ("anna", "over", "anna", "", "over", "anna"):
            self.assertIs(is_name(word), word == "anna")


class Numbers(unittest.TestCase):
    def test_every_number_there_is(self):
        for number in range(10000):
            self.assertEqual(number_in(str(number)), number)

    def test_a_number_is_a_whole_number(self):
        for word in ("0", "1", "9999"):
            with self.subTest(word=word):
                self.assertIs(type(number_in(word)), int)

    def test_no_figure(self):
        self.assertIsNone(number_in(""))

    def test_five_figures_and_more(self):
        for word in ("10000", "99999", "00000", "123456", "1" * 200):
            with self.subTest(word=word):
                self.assertIsNone(number_in(word))

    def test_nought_ahead(self):
        for word in ("00", "000", "0000", "01", "07", "007", "0123", "00007"):
            with self.subTest(word=word):
                self.assertIsNone(number_in(word))

    def test_nought_within_and_behind(self):
        for word, number in (("10", 10), ("100", 100), ("1000", 1000), ("101", 101), ("9090", 9090)):
            with self.subTest(word=word):
                self.assertEqual(number_in(word), number)

    def test_any_other_sign_anywhere(self):
        signs = [chr(code) for code in range(32, 127) if chr(code) not in string.digits]
        # Figures of other scripts, and signs that look or count like figures.
        for sign in signs + BEYOND + ["\u0663", "\uff13", "\u00b2", "\u00bd", "\u2212"]:
            for word in (sign, sign + "12", "1" + sign + "2", "12" + sign):
                with self.subTest(word=word):
                    self.assertIsNone(number_in(word))

    def test_asked_again(self):
        self.assertEqual([number_in(word) for word in ("7", "07", "7", "", "7")], [7, None, 7, None, 7])


class Rows(unittest.TestCase):
    def test_no_word_at_all(self):
        for text in ("", " ", "\n", "  \n \n", "\n\n\n"):
            with self.subTest(text=text):
                self.assertEqual(numbered_rows(text), [])

    def test_rows_are_numbered_from_one(self):
        self.assertEqual(numbered_rows("a\nb\nc"), [(1, ["a"]), (2, ["b"]), (3, ["c"])])

    def test_rows_without_a_word_are_counted(self):
        self.assertEqual(numbered_rows("\na\n   \n\nb\n\n"), [(2, ["a"]), (5, ["b"])])

    def test_blanks_ahead_behind_and_between(self):
        self.assertEqual(numbered_rows("  a   b c  \n d"), [(1, ["a", "b", "c"]), (2, ["d"])])

    def test_nothing_else_parts_words(self):
        self.assertEqual(numbered_rows("a,b;c_d-e.f/g~h"), [(1, ["a,b;c_d-e.f/g~h"])])

    def test_two_answers_share_no_list(self):
        first = numbered_rows("a b\na b")
        first[0][1].append("c")
        first.append((9, []))
        self.assertEqual(first[1], (2, ["a", "b"]))
        self.assertEqual(numbered_rows("a b\na b"), [(1, ["a", "b"]), (2, ["a", "b"])])

    def test_all_rows_are_counted(self):
        counts = (("", 1), ("a", 1), ("  ", 1), ("\n", 2), ("a\n", 2), ("\n \na\n\n", 5), ("\n" * 1999, 2000))
        for text, count in counts:
            with self.subTest(text=text):
                self.assertEqual(row_count(text), count)


if __name__ == "__main__":
    unittest.main()
