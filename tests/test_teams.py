"""Teams and their text, as [5] tells, over rows as [3] tells and answers as [2] tells."""

import copy
import unittest

from inningsbook.errors import BadRow, BookError, Misplaced, Twice, Unfinished
from inningsbook.teams import read_teams, shown_teams
from inningsbook.words import KEYWORDS

ROWS = ("team reds", "player anna", "player bo", "team blues", "player cy", "player di")
TEXT = "\n".join(ROWS)
TEAMS = [("reds", ["anna", "bo"]), ("blues", ["cy", "di"])]


def rows_text(*rows):
    return "\n".join(rows)


def sides_of(side):
    letters = "abcdefghijklmnop"
    return [(name, [name + letter for letter in letters[:side]]) for name in ("one", "two")]


class Refusing(unittest.TestCase):
    def refused(self, refusal, place, text, side=2):
        with self.subTest(text=text, side=side):
            with self.assertRaises(BookError) as caught:
                read_teams(text, side)
            self.assertIs(type(caught.exception), refusal)
            self.assertEqual(caught.exception.place, place)
            self.assertIs(type(caught.exception.place), int)


class Reading(unittest.TestCase):
    def test_two_teams(self):
        self.assertEqual(read_teams(TEXT, 2), TEAMS)

    def test_the_order_of_the_text_is_kept(self):
        text = "team zz\nplayer yy\nplayer bb\nplayer xx\nteam aa\nplayer ww\nplayer cc\nplayer a"
        self.assertEqual(read_teams(text, 3), [("zz", ["yy", "bb", "xx"]), ("aa", ["ww", "cc", "a"])])

    def test_kinds_of_what_is_told(self):
        teams = read_teams(TEXT, 2)
        self.assertIs(type(teams), list)
        self.assertEqual(len(teams), 2)
        for team in teams:
            self.assertIs(type(team), tuple)
            self.assertEqual(len(team), 2)
            self.assertIs(type(team[0]), str)
            self.assertIs(type(team[1]), list)
            self.assertEqual([type(player) for player in team[1]], [str, str])

    def test_every_side(self):
        for side in range(2, 12):
            with self.subTest(side=side):
                self.assertEqual(read_teams(shown_teams(sides_of(side)), side), sides_of(side))

    def test_somewhat_beyond_the_sides_is_not_refused(self):
        for side in (1, 12, 15):
            with self.subTest(side=side):
                self.assertEqual(read_teams(shown_teams(sides_of(side)), side), sides_of(side))

    def test_one_to_three_blanks_between_words(self):
        for blanks in (" ", "  ", "   "):
            with self.subTest(blanks=blanks):
                self.assertEqual(read_teams(TEXT.replace(" ", blanks), 2), TEAMS)
        mixed = rows_text("team reds", "player  anna", "player   bo", "team   blues", "player cy", "player  di")
        self.assertEqual(read_teams(mixed, 2), TEAMS)

    def test_blanks_ahead_and_behind(self):
        for ahead, behind in ((" ", ""), ("", " "), ("   ", "  "), ("  ", "   ")):
            with self.subTest(ahead=ahead, behind=behind):
                self.assertEqual(read_teams("\n".join(ahead + row + behind for row in ROWS), 2), TEAMS)

    def test_rows_without_a_word_are_passed_over(self):
        for text in (TEXT + "\n", "\n" + TEXT, "\n  \n" + TEXT + "\n\n   ", TEXT.replace("\n", "\n\n \n")):
            with self.subTest(text=text):
                self.assertEqual(read_teams(text, 2), TEAMS)

    def test_a_team_and_a_player_may_have_one_name(self):
        own = rows_text("team anna", "player anna", "player bo", "team blues", "player cy", "player blues")
        self.assertEqual(read_teams(own, 2), [("anna", ["anna", "bo"]), ("blues", ["cy", "blues"])])
        crossed = rows_text("team reds", "player blues", "player bo", "team blues", "player reds", "player di")
        self.assertEqual(read_teams(crossed, 2), [("reds", ["blues", "bo"]), ("blues", ["reds", "di"])])
        behind = rows_text("team reds", "player anna", "player bo", "team bo", "player cy", "player di")
        self.assertEqual(read_teams(behind, 2), [("reds", ["anna", "bo"]), ("bo", ["cy", "di"])])

    def test_names_at_their_bounds(self):
        text = rows_text("team a", "player z", "player abcdefgh", "team zzzzzzzz", "player overss", "player tea")
        self.assertEqual(read_teams(text, 2), [("a", ["z", "abcdefgh"]), ("zzzzzzzz", ["overss", "tea"])])

    def test_a_long_text(self):
        self.assertEqual(read_teams("\n" * 1994 + TEXT, 2), TEAMS)
        self.assertEqual(read_teams(TEXT.replace("team reds", "team" + " " * 192 + "reds"), 2), TEAMS)


class BadRows(Refusing):
    def test_too_few_or_too_many_words(self):
        for row in ("team", "player", "team reds reds", "player anna bo", "team reds player", "reds", "anna bo"):
            self.refused(BadRow, 1, row)
            self.refused(BadRow, 2, rows_text("team reds", row))
        self.refused(BadRow, 2, rows_text("team reds", "player anna bo cy"))

    def test_no_such_first_word(self):
        for word in ("teams", "tea", "Team", "TEAM", "players", "play", "Player", "side", "in", "reds", "1", "team,"):
            self.refused(BadRow, 1, f"{word} reds")
            self.refused(BadRow, 3, rows_text("team reds", "player anna", f"{word} bo"))

    def test_no_name(self):
        for name in ("1", "0", "a1", "Anna", "ANNA", "an-na", "abcdefghi", "anna,", "~", "an_na"):
            self.refused(BadRow, 1, f"team {name}")
            self.refused(BadRow, 2, rows_text("team reds", f"player {name}"))

    def test_a_keyword_as_a_name(self):
        for word in KEYWORDS:
            self.refused(BadRow, 1, f"team {word}")
            self.refused(BadRow, 2, rows_text("team reds", f"player {word}"))

    def test_words_must_be_parted_by_blanks(self):
        for row in ("teamreds", "team\treds", "team=reds", "team\nreds"):
            self.refused(BadRow, 1, row)

    def test_a_bad_row_behind_whole_teams(self):
        self.refused(BadRow, 7, rows_text(TEXT, "foo"))
        self.refused(BadRow, 9, rows_text(TEXT, "", "  ", "player", ""))

    def test_the_row_is_counted_with_those_without_a_word(self):
        self.refused(BadRow, 4, "\n \n\nfoo\n")
        self.refused(BadRow, 2000, "\n" * 1999 + "foo")


class Misplacing(Refusing):
    def test_a_player_ahead_of_all_teams(self):
        self.refused(Misplaced, 1, "player anna")
        self.refused(Misplaced, 1, rows_text("player anna", TEXT))
        self.refused(Misplaced, 3, "\n\n player anna\nteam reds")

    def test_a_third_team(self):
        self.refused(Misplaced, 7, rows_text(TEXT, "team greens"))
        self.refused(Misplaced, 8, rows_text(TEXT, "", "team greens", "player ed", "player flo"))

    def test_a_third_team_while_the_second_lacks_players(self):
        self.refused(Misplaced, 5, rows_text(*ROWS[:4], "team greens"))
        self.refused(Misplaced, 6, rows_text(*ROWS[:5], "team greens"))

    def test_a_team_while_the_one_ahead_has_fewer_players(self):
        self.refused(Misplaced, 2, rows_text("team reds", "team blues"))
        self.refused(Misplaced, 3, rows_text("team reds", "player anna", "team blues", "player cy", "player di"))
        self.refused(Misplaced, 4, TEXT, 3)
        self.refused(Misplaced, 12, shown_teams(sides_of(10)), 11)

    def test_a_player_where_the_team_has_all(self):
        self.refused(Misplaced, 4, rows_text("team reds", "player anna", "player bo", "player cy"))
        self.refused(Misplaced, 7, rows_text(TEXT, "player ed"))
        self.refused(Misplaced, 13, shown_teams(sides_of(12)), 11)
        self.refused(Misplaced, 3, TEXT, 1)


class ToldTwice(Refusing):
    def test_a_team(self):
        self.refused(Twice, 4, TEXT.replace("blues", "reds"))
        self.refused(Twice, 6, "\nteam reds\nplayer anna\nplayer bo\n\n team   reds")

    def test_a_player_in_the_same_team(self):
        self.refused(Twice, 3, rows_text("team reds", "player anna", "player anna"))
        self.refused(Twice, 6, rows_text(*ROWS[:5], "player cy"))
        self.refused(Twice, 4, rows_text("team reds", "player anna", "player bo", "player anna"), 3)

    def test_a_player_in_the_other_team(self):
        self.refused(Twice, 5, rows_text(*ROWS[:4], "player anna"))
        self.refused(Twice, 5, rows_text(*ROWS[:4], "player bo"))
        self.refused(Twice, 6, rows_text(*ROWS[:5], "player bo"))


class Order(Refusing):
    def test_bad_row_ahead_of_misplaced_in_one_row(self):
        self.refused(BadRow, 1, "player over")
        self.refused(BadRow, 1, "player anna bo")
        self.refused(BadRow, 2, rows_text("team reds", "team Blues"))
        self.refused(BadRow, 7, rows_text(TEXT, "team"))
        self.refused(BadRow, 7, rows_text(TEXT, "player 1"))

    def test_bad_row_ahead_of_twice_in_one_row(self):
        self.refused(BadRow, 3, rows_text("team reds", "player anna", "player anna anna"))
        self.refused(BadRow, 4, rows_text("team reds", "player anna", "player bo", "team reds reds"))

    def test_misplaced_ahead_of_twice_in_one_row(self):
        self.refused(Misplaced, 2, rows_text("team reds", "team reds"))
        self.refused(Misplaced, 3, rows_text("team reds", "player anna", "team reds"))
        self.refused(Misplaced, 4, rows_text("team reds", "player anna", "player bo", "player anna"))
        self.refused(Misplaced, 7, rows_text(TEXT, "team reds"))
        self.refused(Misplaced, 7, rows_text(TEXT, "team blues"))
        self.refused(Misplaced, 7, rows_text(TEXT, "player anna"))
        self.refused(Misplaced, 7, rows_text(TEXT, "player di"))

    def test_the_first_row_goes_first_whatever_its_refusal(self):
        twice = ("team reds", "player anna", "player anna")
        self.refused(Twice, 3, rows_text(*twice, "team blues", "foo"))
        self.refused(Twice, 3, rows_text(*twice, "foo", "team blues"))
        self.refused(Misplaced, 2, rows_text("team reds", "team reds", "foo"))
        self.refused(Misplaced, 1, rows_text("player anna", "foo"))
        self.refused(BadRow, 1, rows_text("foo", "player anna", "team reds", "team reds"))
        self.refused(Misplaced, 7, rows_text(TEXT, "player ed", "foo"))

    def test_any_row_ahead_of_unfinished(self):
        self.refused(BadRow, 2, rows_text("team reds", "foo", "", ""))
        self.refused(Misplaced, 1, rows_text("player anna", "", ""))
        self.refused(Twice, 3, rows_text("team reds", "player anna", "player anna", "", ""))


class NotFinished(Refusing):
    def test_no_row_with_a_word(self):
        self.refused(Unfinished, 1, "")
        self.refused(Unfinished, 1, "   ")
        self.refused(Unfinished, 2, "\n")
        self.refused(Unfinished, 4, "\n \n\n  ")

    def test_every_beginning_of_a_text(self):
        for count in range(1, 6):
            self.refused(Unfinished, count, rows_text(*ROWS[:count]))

    def test_last_rows_without_a_word_are_counted(self):
        for count in range(1, 6):
            self.refused(Unfinished, count + 1, rows_text(*ROWS[:count]) + "\n")
            self.refused(Unfinished, count + 3, rows_text(*ROWS[:count]) + "\n\n   \n")

    def test_all_rows_without_a_word_are_counted(self):
        self.refused(Unfinished, 7, "\nteam reds\n\n  \nplayer anna\n\n")
        self.refused(Unfinished, 2000, "team reds" + "\n" * 1999)

    def test_the_second_team_has_fewer_players(self):
        text = shown_teams(sides_of(4))
        self.refused(Unfinished, 9, text[:text.rindex("\n")], 4)

    def test_one_whole_team_is_not_enough(self):
        self.refused(Unfinished, 3, rows_text(*ROWS[:3]))
        self.refused(Unfinished, 12, shown_teams(sides_of(11)[:1]), 11)


class Showing(unittest.TestCase):
    def test_rows_in_order(self):
        self.assertEqual(shown_teams(TEAMS), TEXT)

    def test_the_order_is_kept(self):
        teams = [("zz", ["yy", "bb"]), ("aa", ["ww", "cc"])]
        self.assertEqual(shown_teams(teams), "team zz\nplayer yy\nplayer bb\nteam aa\nplayer ww\nplayer cc")

    def test_read_again_they_are_the_same(self):
        for teams, side in ((TEAMS, 2), (sides_of(5), 5), (sides_of(11), 11)):
            with self.subTest(side=side):
                self.assertEqual(read_teams(shown_teams(teams), side), teams)

    def test_what_was_read_may_be_shown(self):
        text = "\n  team  reds \nplayer   anna\n\nplayer bo\nteam blues\n player cy\nplayer di\n\n"
        self.assertEqual(shown_teams(read_teams(text, 2)), TEXT)


class TheAskersOwn(unittest.TestCase):
    def test_changing_what_was_told_changes_no_later_answer(self):
        told = read_teams(TEXT, 2)
        told[0][1].append("zed")
        told[1][1].clear()
        told.pop()
        self.assertEqual(read_teams(TEXT, 2), TEAMS)

    def test_what_was_told_stays_as_it_was(self):
        told = read_teams(TEXT, 2)
        read_teams(shown_teams(sides_of(3)), 3)
        with self.assertRaises(BookError):
            read_teams(rows_text(TEXT, "player ed"), 2)
        self.assertEqual(told, TEAMS)

    def test_no_two_lists_are_one(self):
        first = read_teams(TEXT, 2)
        second = read_teams(TEXT, 2)
        lists = [first, first[0][1], first[1][1], second, second[0][1], second[1][1]]
        self.assertEqual(len({id(found) for found in lists}), 6)

    def test_no_two_lists_are_one_where_they_are_empty(self):
        told = read_teams("team reds\nteam blues", 0)
        self.assertEqual(told, [("reds", []), ("blues", [])])
        self.assertIsNot(told[0][1], told[1][1])

    def test_showing_changes_nothing_that_is_handed_in(self):
        teams = copy.deepcopy(TEAMS)
        shown_teams(teams)
        self.assertEqual(teams, TEAMS)

    def test_shown_by_what_is_handed_in_now(self):
        teams = read_teams(TEXT, 2)
        self.assertEqual(shown_teams(teams), TEXT)
        teams[0][1][0] = "zed"
        self.assertEqual(shown_teams(teams), TEXT.replace("anna", "zed"))
        self.assertEqual(shown_teams(TEAMS), TEXT)

    def test_asked_again(self):
        self.assertEqual([read_teams(TEXT, 2) for asked in range(3)], [TEAMS] * 3)
        self.assertEqual([shown_teams(TEAMS) for asked in range(3)], [TEXT] * 3)

    def test_asked_again_behind_a_refusal(self):
        for text in (rows_text(*ROWS[:5]), rows_text(TEXT, "team greens"), rows_text(*ROWS[:3], "team reds")):
            with self.assertRaises(BookError):
                read_teams(text, 2)
            self.assertEqual(read_teams(TEXT, 2), TEAMS)


if __name__ == "__main__":
    unittest.main()
