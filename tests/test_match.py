"""The match, as [12] to [15] tell, and what [2] asks of it."""

import copy
import unittest

from inningsbook.entries import read_entries
from inningsbook.errors import NotLet
from inningsbook.match import Match
from telling import Telling, all_told, match_of, rules_of, sixes, teams_of, tell_rows

START = "start reds a b p"
BACK = "start blues p q a"


def innings_of(start, runs):
    """Rows of an innings with so many runs, none of which move anybody, that is declared."""
    return [start] + sixes(runs // 6) + [f"bye {runs % 6}", "declare"]


def long_match(first, second, *rows, follow=0):
    """A match of two innings each behind its second innings, and then these rows."""
    ahead = innings_of(START, first) + innings_of(BACK, second)
    return match_of(f"innings 2\nfollow {follow}\nover 12\nspell 0", *ahead, *rows)


class OneInningsEach(Telling):
    def test_either_team_starts(self):
        self.assertEqual(match_of("").turn(), "")
        self.assertEqual(match_of("", START).state()[0], "reds")
        self.assertEqual(match_of("", BACK).state()[0], "blues")

    def test_then_the_other_one(self):
        match = match_of("", START, "declare")
        self.assertEqual(match.turn(), "blues")
        self.refused(match, "turn", START)
        match = match_of("", BACK, "declare")
        self.assertEqual(match.turn(), "reds")
        self.refused(match, "turn", BACK)

    def test_done_behind_the_second(self):
        match = match_of("", START, "bat 2", "declare", BACK, "bat 1")
        self.assertIsNone(match.result())
        tell_rows(match, "declare")
        self.assertEqual(match.result(), ("won", "reds"))
        self.assertEqual(match.turn(), "")

    def test_won_by_either_or_a_tie(self):
        for starts, runs, wanted in (
            ((START, BACK), (2, 1), ("won", "reds")),
            ((START, BACK), (1, 2), ("won", "blues")),
            ((START, BACK), (2, 2), ("tie",)),
            ((START, BACK), (0, 0), ("tie",)),
            ((BACK, START), (2, 1), ("won", "blues")),
            ((BACK, START), (1, 2), ("won", "reds")),
            ((BACK, START), (2, 2), ("tie",)),
        ):
            with self.subTest(starts=starts, runs=runs):
                rows = [starts[0], f"bat {runs[0]}", "declare", starts[1], f"bat {runs[1]}"]
                match = match_of("", *rows)
                if match.result() is None:
                    tell_rows(match, "declare")
                self.assertEqual(match.result(), wanted)

    def test_no_follow_on(self):
        match = match_of("follow 1", START, *sixes(2), "declare")
        self.refused(match, "follow", "follow")
        tell_rows(match, BACK, "bat 0", "declare")
        self.assertEqual(match.result(), ("won", "reds"))
        self.refused(match, "done", "follow")


class TwoInningsEach(Telling):
    def test_by_turns(self):
        for first, second, names in ((START, BACK, ("reds", "blues")), (BACK, START, ("blues", "reds"))):
            with self.subTest(first=first):
                match = match_of("innings 2")
                for number, row in enumerate((first, second, first, second)):
                    self.assertIsNone(match.result())
                    self.assertEqual(match.turn(), "" if number == 0 else names[number % 2])
                    if number > 0:
                        self.refused(match, "turn", (second, first)[number % 2])
                    tell_rows(match, row)
                    self.assertEqual(match.turn(), "")
                    self.assertEqual(match.state()[0], names[number % 2])
                    tell_rows(match, "declare")
                self.assertEqual(match.result(), ("tie",))
                self.assertEqual([told[0] for told in match.innings()], list(names) * 2)

    def test_a_sum_is_that_of_all_innings(self):
        match = long_match(5, 3, START, "bat 1", "declare", BACK, "bat 2", "declare")
        self.assertEqual(match.result(), ("won", "reds"))
        match = long_match(5, 3, START, "bat 1", "declare", BACK, "bat 3", "declare")
        self.assertEqual(match.result(), ("tie",))
        match = long_match(5, 3, START, "bat 1", "declare", BACK, "bat 4")
        self.assertEqual(match.result(), ("won", "blues"))

    def test_done_behind_the_third_where_it_is_less(self):
        match = long_match(5, 20, START, "bat 9", "bat 5")
        self.assertIsNone(match.result())
        tell_rows(match, "declare")
        self.assertEqual(match.result(), ("won", "blues"))
        self.assertEqual(match.turn(), "")
        self.assertEqual(len(match.innings()), 3)
        self.refused(match, "done", BACK)

    def test_not_done_behind_the_third_where_it_is_level_or_more(self):
        for runs in ("bat 6", "bat 7"):
            with self.subTest(runs=runs):
                match = long_match(5, 20, START, "bat 9", runs, "declare")
                self.assertIsNone(match.result())
                self.assertEqual(match.turn(), "blues")

    def test_the_last_needs_one_run_where_it_is_level(self):
        match = long_match(5, 20, START, "bat 9", "bat 6", "declare", BACK)
        self.assertIsNone(match.result())
        tell_rows(match, "wide 0")
        self.assertEqual(match.result(), ("won", "blues"))

    def test_first_team_blues(self):
        rows = innings_of(BACK, 3) + innings_of(START, 10) + [BACK, "bat 6", "declare"]
        self.assertEqual(match_of("innings 2", *rows).result(), ("won", "reds"))


class FollowOn(Telling):
    AGAIN = ("follow", BACK)

    def test_lead_at_below_and_above_the_rules(self):
        self.assertEqual(long_match(22, 2, *self.AGAIN, follow=20).state()[0], "blues")
        self.assertEqual(long_match(23, 2, *self.AGAIN, follow=20).state()[0], "blues")
        self.refused(long_match(21, 2, follow=20), "follow", "follow")

    def test_where_the_rules_have_none(self):
        self.refused(long_match(60, 2, follow=0), "follow", "follow")
        self.refused(long_match(2, 2, follow=0), "follow", "follow")

    def test_a_follow_of_one(self):
        self.refused(long_match(2, 2, follow=1), "follow", "follow")
        self.assertEqual(long_match(3, 2, "follow", follow=1).turn(), "blues")

    def test_not_by_the_side_that_batted_second(self):
        self.refused(long_match(2, 60, follow=5), "follow", "follow")

    def test_either_team_first(self):
        rows = innings_of(BACK, 9) + innings_of(START, 2)
        match = match_of("innings 2\nfollow 7", *rows)
        self.assertEqual(match.turn(), "blues")
        tell_rows(match, "follow")
        self.assertEqual(match.turn(), "reds")
        self.refused(match, "turn", BACK)

    def test_turns(self):
        match = long_match(9, 2, follow=7)
        self.assertEqual(match.turn(), "reds")
        self.refused(match, "turn", BACK)
        tell_rows(match, "follow")
        self.assertEqual(match.turn(), "blues")
        self.refused(match, "turn", START)
        tell_rows(match, BACK, "bat 8", "declare")
        self.assertEqual(match.turn(), "reds")
        self.refused(match, "turn", BACK)
        tell_rows(match, START)
        self.assertEqual([told[0] for told in match.innings()], ["reds", "blues", "blues", "reds"])
        tell_rows(match, "declare")
        self.assertEqual(match.result(), ("won", "blues"))

    def test_it_need_not_be_told(self):
        match = long_match(9, 2, START, "declare", follow=7)
        self.assertEqual(match.turn(), "blues")

    def test_told_twice(self):
        self.refused(long_match(9, 2, "follow", follow=7), "follow", "follow")

    def test_at_other_times(self):
        self.refused(match_of("innings 2\nfollow 1"), "follow", "follow")
        self.refused(match_of("innings 2\nfollow 1", START, *sixes(2), "declare"), "follow", "follow")
        third = long_match(9, 2, START, *sixes(2), "declare", follow=1)
        self.refused(third, "follow", "follow")
        third = long_match(9, 2, *self.AGAIN, "bat 8", "declare", follow=7)
        self.refused(third, "follow", "follow")

    def test_while_an_innings_is_under_way(self):
        self.refused(match_of("innings 2\nfollow 1", START), "going", "follow")
        self.refused(long_match(9, 2, START, follow=7), "going", "follow")
        self.refused(long_match(9, 2, *self.AGAIN, follow=7), "going", "follow")

    def test_done_behind_the_third_where_it_is_less(self):
        match = long_match(9, 2, *self.AGAIN, "bat 6", "declare", follow=7)
        self.assertEqual(match.result(), ("won", "reds"))
        self.assertEqual(match.turn(), "")

    def test_not_done_behind_the_third_where_it_is_level(self):
        match = long_match(9, 2, *self.AGAIN, "bat 7", "declare", follow=7)
        self.assertIsNone(match.result())
        tell_rows(match, START, "wide 0")
        self.assertEqual(match.innings()[3], ("reds", 1, 0, 0, 0, "won"))
        self.assertEqual(match.result(), ("won", "reds"))

    def test_the_third_is_not_won_at_once(self):
        match = long_match(9, 2, *self.AGAIN, "bat 9", follow=7)
        self.assertEqual(match.innings()[2][5], "")
        tell_rows(match, "declare", START, "bat 2")
        self.assertIsNone(match.result())
        self.assertEqual(tell_rows(match, "bat 1").result(), ("won", "reds"))


class Close(Telling):
    def test_ahead_of_all(self):
        match = match_of("", "close")
        self.assertEqual(all_told(match), (None, [], "", teams_of(), ("closed",), []))

    def test_within_an_innings(self):
        match = match_of("", START, "bat 3", "close")
        self.assertIsNone(match.state())
        self.assertEqual(match.innings(), [("reds", 3, 0, 0, 1, "closed")])
        self.assertEqual(match.result(), ("closed",))
        self.assertEqual(match.turn(), "")

    def test_between_innings(self):
        match = match_of("", START, "bat 3", "declare", "close")
        self.assertEqual(match.innings(), [("reds", 3, 0, 0, 1, "declared")])
        self.assertEqual(match.result(), ("closed",))
        self.assertEqual(match.turn(), "")

    def test_with_empty_places_and_no_bowler(self):
        match = match_of("over 1", START, "bat 0 out bowled", "hurt b", "close")
        self.assertEqual(match.innings(), [("reds", 0, 1, 1, 0, "closed")])

    def test_behind_a_follow_on_told(self):
        match = long_match(9, 2, "follow", "close", follow=7)
        self.assertEqual((match.result(), match.turn()), (("closed",), ""))

    def test_in_the_last_innings(self):
        match = match_of("", START, "bat 3", "declare", BACK, "bat 1", "close")
        self.assertEqual(match.innings()[1], ("blues", 1, 0, 0, 1, "closed"))
        self.assertEqual(match.result(), ("closed",))


class Done(Telling):
    ROWS = ("start reds a b p", "start blues p q a", "start x a a a", "bat 0", "bat 3 rope", "in c", "in z", "bowl q",
            "hurt a", "hurt z", "swap c e", "swap z a", "declare", "follow", "close")

    def test_every_entry_behind_a_close(self):
        self.refused(match_of("", "close"), "done", *self.ROWS)
        self.refused(match_of("innings 2\nfollow 1", START, "bat 0", "close"), "done", *self.ROWS)

    def test_every_entry_behind_the_last_innings(self):
        self.refused(match_of("", START, "declare", BACK, "declare"), "done", *self.ROWS)
        self.refused(match_of("", START, "declare", BACK, "bat 1"), "done", *self.ROWS)

    def test_every_entry_behind_a_third_that_spares_the_last(self):
        self.refused(long_match(5, 20, START, "declare", follow=1), "done", *self.ROWS)


class StartRefused(Telling):
    def test_going(self):
        self.refused(match_of("", START), "going", "start blues p q a", "start reds c d q", "start x a a a")
        self.refused(match_of("over 1", START, "bat 0 out bowled"), "going", "start blues p q a", "start reds p p p")

    def test_turn(self):
        self.refused(match_of(""), "turn", "start x a b p", "start greens a a a", "start a a b p")
        match = match_of("", START, "declare")
        self.refused(match, "turn", START, "start greens p q a", "start reds p p p", "start x a a a")

    def test_team(self):
        match = match_of("")
        self.refused(match, "team", "start reds p b q", "start reds a p q", "start reds a b c", "start reds a b z")
        self.refused(match, "team", "start reds z b p", "start reds a z p", "start blues a b p", "start reds p q a")
        # Both are due: the team goes first.
        self.refused(match, "team", "start reds p p q", "start reds z z p", "start reds a a b", "start reds a a a")
        self.refused(match_of("", START, "declare"), "team", "start blues a b p", "start blues p q r")

    def test_alike(self):
        self.refused(match_of(""), "alike", "start reds a a p", "start reds d d s", "start blues p p a")


class NoneRefused(Telling):
    ROWS = ("bat 0", "bat 3 rope", "bat 0 out run z other", "in c", "in z", "bowl q", "bowl z", "hurt a", "hurt z",
            "declare")

    def test_ahead_of_all(self):
        self.refused(match_of(""), "none", *self.ROWS)

    def test_between_innings(self):
        self.refused(match_of("", START, "declare"), "none", *self.ROWS)
        self.refused(long_match(9, 2, "follow", follow=7), "none", *self.ROWS)


class BallRefused(Telling):
    def test_empty(self):
        rows = ("bat 0", "wide 1", "bat 3 rope", "no 0 out bowled", "bat 0 out run z other", "bat 0 out run a other")
        self.refused(match_of("", START, "hurt a"), "empty", *rows)
        self.refused(match_of("", START, "hurt b"), "empty", *rows)
        self.refused(match_of("", START, "hurt b", "hurt a", "in c"), "empty", *rows)
        self.refused(match_of("", START, "bat 0 out bowled"), "empty", *rows)
        # Here there is no bowler either.
        self.refused(match_of("over 1", START, "bat 0 out bowled"), "empty", *rows)

    def test_bowler(self):
        match = match_of("over 1", START, "bat 0")
        self.refused(match, "bowler", "bat 0", "wide 1", "bat 3 rope", "no 0 out bowled", "bat 0 out run z other")
        tell_rows(match, "bowl q", "bat 0")

    def test_rope(self):
        match = match_of("", START)
        self.refused(match, "rope", "bat 3 rope", "bye 6 rope", "wide 6 rope", "nobye 6 rope", "no 5 rope")
        self.refused(match, "rope", "bat 3 rope out bowled", "bat 0 rope out run a strike", "no 1 rope out run z other")

    def test_way(self):
        match = match_of("", START)
        self.refused(match, "way", "no 0 out bowled", "bat 1 out caught", "wide 0 out before", "wide 2 out stumped")
        self.refused(match, "way", "bat 4 rope out run a strike", "bat 6 rope out run z other", "bye 0 out hit")

    def test_who(self):
        match = match_of("", START)
        self.refused(match, "who", *[f"bat 1 out run {name} strike" for name in ("c", "d", "p", "q", "z")])
        self.refused(match, "who", "wide 0 out run c other", "nobye 3 out run reds other")
        match = match_of("", START, "bat 0 out bowled", "in c")
        self.refused(match, "who", "bat 0 out run a strike")
        match = match_of("", START, "hurt a", "in d")
        self.refused(match, "who", "bat 0 out run a strike")


class InRefused(Telling):
    def test_full(self):
        self.refused(match_of("", START), "full", "in c", "in a", "in p", "in z")
        match = match_of("", START, "bat 0 out bowled", "in c")
        self.refused(match, "full", "in a", "in d", "in b")
        self.refused(match_of("over 1", START, "bat 0"), "full", "in c")

    def test_team(self):
        match = match_of("", START, "bat 0 out bowled")
        self.refused(match, "team", "in p", "in q", "in s", "in z", "in reds")

    def test_out(self):
        match = match_of("", START, "bat 0 out bowled")
        self.refused(match, "out", "in a")
        tell_rows(match, "in c", "bat 2 out run b other")
        self.refused(match, "out", "in a", "in b")

    def test_there(self):
        self.refused(match_of("", START, "hurt a"), "there", "in b")
        self.refused(match_of("", START, "hurt b"), "there", "in a")
        self.refused(match_of("", START, "hurt a", "hurt b", "in c"), "there", "in c")


class BowlRefused(Telling):
    def test_bowling(self):
        match = match_of("over 2\nspell 1", START)
        self.refused(match, "bowling", "bowl q", "bowl p", "bowl a", "bowl z")
        tell_rows(match, "bat 0", "bat 0", "bowl q")
        self.refused(match, "bowling", "bowl r", "bowl p", "bowl q")

    def test_team(self):
        match = match_of("over 1", START, "bat 0")
        self.refused(match, "team", "bowl a", "bowl c", "bowl z", "bowl blues")

    def test_twice(self):
        match = match_of("over 1", START, "bat 0")
        self.refused(match, "twice", "bowl p")
        tell_rows(match, "bowl q", "bat 0")
        self.refused(match, "twice", "bowl q")
        self.assertEqual(tell_rows(match, "bowl p").state()[3], "p")

    def test_twice_goes_ahead_of_spell(self):
        match = match_of("over 1\nspell 1", START, "bat 0")
        self.refused(match, "twice", "bowl p")
        tell_rows(match, "bowl q", "bat 0")
        self.refused(match, "twice", "bowl q")
        self.refused(match, "spell", "bowl p")

    def test_spell(self):
        rows = ("bat 0", "bowl q", "bat 0", "bowl p", "bat 0", "bowl q", "bat 0")
        match = match_of("over 1\nspell 2", START, *rows)
        self.refused(match, "spell", "bowl p")
        tell_rows(match, "bowl r", "bat 0")
        self.refused(match, "spell", "bowl p", "bowl q")
        tell_rows(match, "bowl s", "bat 0", "bowl r", "bat 0", "bowl s", "bat 0")
        self.refused(match, "spell", "bowl p", "bowl q", "bowl r")
        self.refused(match, "twice", "bowl s")

    def test_a_spell_of_three(self):
        match = match_of("over 1\nspell 3", START, "bat 0")
        for row in ("bowl q", "bowl p", "bowl q", "bowl p", "bowl q"):
            tell_rows(match, row, "bat 0")
        self.refused(match, "spell", "bowl p")
        self.refused(match, "twice", "bowl q")

    def test_no_bound_to_the_spell(self):
        match = match_of("over 1\nspell 0", START, "bat 0")
        for count in range(30):
            tell_rows(match, "bowl q", "bat 0", "bowl p", "bat 0")
        self.assertEqual(match.state()[6], 61)

    def test_another_innings_counts_anew(self):
        rows = ("bat 0", "declare", BACK, "declare", START, "bat 0", "bowl q", "bat 0")
        match = match_of("over 1\nspell 1\ninnings 2", START, *rows)
        self.refused(match, "spell", "bowl p")
        match = match_of("over 1\nspell 1\ninnings 2", START, "bat 0", "declare", BACK, "declare")
        tell_rows(match, "start reds a b q", "bat 0")
        self.assertEqual(tell_rows(match, "bowl p").state()[3], "p")


class HurtRefused(Telling):
    def test_who(self):
        self.refused(match_of("", START), "who", "hurt c", "hurt p", "hurt q", "hurt z")
        self.refused(match_of("", START, "bat 0 out bowled"), "who", "hurt a", "hurt c")
        self.refused(match_of("", START, "hurt a"), "who", "hurt a")


class SwapRefused(Telling):
    def test_team(self):
        match = match_of("")
        self.refused(match, "team", "swap z e", "swap reds e", "swap z z")
        # A new name that is a player's is due as well, but behind it.
        self.refused(match, "team", "swap z a")
        self.refused(match_of("", START), "team", "swap z e", "swap z a")

    def test_name(self):
        match = match_of("")
        self.refused(match, "name", "swap a b", "swap a p", "swap p a", "swap a a")
        # Who stands at a place or bowls is due as well, but behind it.
        self.refused(match_of("", START), "name", "swap a c", "swap b p", "swap p a", "swap a a", "swap c d")

    def test_names_that_were_players_once(self):
        match = match_of("", "swap c e")
        self.refused(match, "name", "swap d c", "swap e c", "swap p c", "swap p e", "swap e e")
        self.refused(match, "team", "swap c f", "swap c c", "swap c e")
        tell_rows(match, "swap e f")
        self.refused(match, "name", "swap f e", "swap f c", "swap q e")
        self.refused(match, "team", "swap e g")

    def test_there(self):
        match = match_of("over 1", START)
        self.refused(match, "there", "swap a e", "swap b e", "swap p e")
        tell_rows(match, "bat 0", "bowl q")
        self.refused(match, "there", "swap a e", "swap b e", "swap q e")
        tell_rows(match, "hurt a", "in c")
        self.refused(match, "there", "swap b e", "swap c e")

    def test_nobody_is_there_between_innings(self):
        match = match_of("", START, "declare", "swap a e", "swap b f", "swap p g")
        self.assertEqual(match.players(), teams_of("efcd", "gqrs"))


class Swap(Telling):
    def test_ahead_of_all(self):
        match = match_of("", "swap b e", "swap s f")
        self.assertEqual(match.players(), teams_of("aecd", "pqrf"))
        self.refused(match, "team", "start reds a b p", "start reds a e s")
        self.assertEqual(tell_rows(match, "start reds a e f").state()[:4], ("reds", "a", "e", "f"))

    def test_within_an_innings(self):
        match = match_of("over 1", START, "swap c e", "swap q f", "bat 0 out bowled")
        self.assertEqual(match.players(), teams_of("abed", "pfrs"))
        self.refused(match, "team", "in c", "bowl q")
        self.assertEqual(tell_rows(match, "in e", "bowl f").state()[:4], ("reds", "b", "e", "f"))

    def test_new_is_out_where_old_is(self):
        match = match_of("", START, "bat 0 out bowled", "swap a e")
        self.refused(match, "out", "in e")
        self.refused(match, "team", "in a")
        tell_rows(match, "in c", "bat 0 out bowled", "in d", "bat 0 out bowled")
        self.assertEqual(match.innings(), [("reds", 0, 3, 0, 3, "out")])

    def test_new_may_come_in_where_old_left_hurt(self):
        match = match_of("", START, "hurt a", "swap a e")
        self.refused(match, "team", "in a")
        self.assertEqual(tell_rows(match, "in e").state()[1:3], ("e", "b"))

    def test_out_in_one_innings_alone(self):
        rows = (START, "bat 0 out bowled", "swap a e", "declare", "start blues p q b", "declare", "start reds e b p")
        self.assertEqual(match_of("innings 2", *rows).state()[1], "e")

    def test_overs_towards_the_spell(self):
        rows = (START, "bat 0", "bowl q", "swap p e", "bat 0")
        match = match_of("over 1\nspell 1", *rows)
        self.refused(match, "spell", "bowl e")
        match = match_of("over 1\nspell 2", *rows, "bowl e", "bat 0", "bowl q", "bat 0")
        self.refused(match, "spell", "bowl e")
        self.assertEqual(tell_rows(match, "bowl r").state()[3], "r")

    def test_who_never_bowled_has_the_whole_spell(self):
        match = match_of("over 1\nspell 1", START, "swap q e", "bat 0", "bowl e")
        self.assertEqual(match.state()[3], "e")

    def test_the_over_ahead(self):
        match = match_of("over 1", START, "bat 0", "swap p e")
        self.refused(match, "twice", "bowl e")
        self.refused(match, "team", "bowl p")
        tell_rows(match, "bowl q", "bat 0")
        self.assertEqual(tell_rows(match, "bowl e").state()[3], "e")

    def test_another_than_the_over_ahead(self):
        match = match_of("over 1", START, "bat 0", "bowl q", "bat 0", "swap p e")
        self.refused(match, "twice", "bowl q")
        self.assertEqual(tell_rows(match, "bowl e").state()[3], "e")

    def test_swapped_twice(self):
        match = match_of("over 1\nspell 1", START, "bat 0 out bowled", "swap p e", "swap a f", "swap e g", "swap f h")
        self.assertEqual(match.players(), teams_of("hbcd", "gqrs"))
        self.refused(match, "twice", "bowl g")
        self.refused(match, "out", "in h")
        tell_rows(match, "in c", "bowl q", "bat 0")
        self.refused(match, "spell", "bowl g")

    def test_it_ends_nothing_and_starts_nothing(self):
        match = match_of("", START, "bat 0 out bowled", "in c", "bat 0 out bowled", "swap d e")
        self.assertEqual(match.state(), ("reds", "", "b", "p", 0, 2, 0, 2))
        match = match_of("", "swap a e")
        self.assertEqual((match.turn(), match.state(), match.innings()), ("", None, []))

    def test_the_log_keeps_the_old_names(self):
        match = match_of("over 1", START, "bat 0 out bowled", "swap a e", "swap p f", "in c", "bowl q", "bat 1")
        self.assertEqual(match.log(), [
            (0, 0, 0, "a", "b", "p", ("ball", "bat", 0, False, "bowled", "", ""), "a"),
            (0, 1, 0, "b", "c", "q", ("ball", "bat", 1, False, "", "", ""), ""),
        ])

    def test_a_player_called_like_a_team(self):
        match = match_of("", "swap a reds", "swap p blues", "start reds reds b blues")
        self.assertEqual(match.state()[:4], ("reds", "reds", "b", "blues"))


class Told(Telling):
    def test_ahead_of_all(self):
        self.assertEqual(all_told(match_of("")), (None, [], "", teams_of(), None, []))

    def test_within_an_innings(self):
        match = match_of("over 2\nnoball 2", START, "bat 1", "no 3", "bat 0 out run b other", "in c", "bowl q", "leg 2")
        balls = [("ball", "bat", 1, False, "", "", ""), ("ball", "no", 3, False, "", "", ""),
                 ("ball", "bat", 0, False, "run", "b", "other"), ("ball", "leg", 2, False, "", "", "")]
        self.assertEqual(match.state(), ("reds", "c", "a", "q", 8, 1, 1, 1))
        self.assertEqual(match.innings(), [("reds", 8, 1, 1, 1, "")])
        self.assertEqual(match.turn(), "")
        self.assertEqual(match.players(), teams_of())
        self.assertIsNone(match.result())
        self.assertEqual(match.log(), [
            (0, 0, 0, "a", "b", "p", balls[0], ""),
            (0, 0, 1, "b", "a", "p", balls[1], ""),
            (0, 0, 1, "a", "b", "p", balls[2], "b"),
            (0, 1, 0, "c", "a", "q", balls[3], ""),
        ])

    def test_nobody_is_the_empty_text(self):
        match = match_of("over 1", START, "bat 0 out bowled", "hurt b")
        self.assertEqual(match.state(), ("reds", "", "", "", 0, 1, 1, 0))

    def test_between_innings(self):
        match = match_of("", START, "bat 1", "declare")
        self.assertIsNone(match.state())
        self.assertEqual(match.innings(), [("reds", 1, 0, 0, 1, "declared")])
        self.assertEqual(match.turn(), "blues")
        self.assertIsNone(match.result())

    def test_behind_the_last(self):
        match = match_of("over 1\novers 1", START, "bat 1", BACK, "bat 1")
        self.assertIsNone(match.state())
        self.assertEqual(match.innings(), [("reds", 1, 0, 1, 0, "overs"), ("blues", 1, 0, 1, 0, "overs")])
        self.assertEqual(match.turn(), "")
        self.assertEqual(match.result(), ("tie",))
        self.assertEqual([ball[0] for ball in match.log()], [0, 1])
        self.assertEqual(match.log()[1][1:6], (0, 0, "p", "q", "a"))

    def test_the_log_numbers_the_innings(self):
        match = long_match(1, 1, START, "bat 1", "declare", BACK, "bat 0")
        self.assertEqual([ball[0] for ball in match.log()], [0, 1, 2, 3])

    def test_kinds(self):
        match = match_of("over 1", START, "bat 1", "bowl q", "declare", BACK, "wide 0")
        self.assertEqual([type(part) for part in match.state()], [str] * 4 + [int] * 4)
        self.assertIs(type(match.state()), tuple)
        self.assertIs(type(match.innings()), list)
        for told in match.innings():
            self.assertIs(type(told), tuple)
            self.assertEqual([type(part) for part in told], [str] + [int] * 4 + [str])
        self.assertIs(type(match.players()), list)
        for told in match.players():
            self.assertEqual((type(told), type(told[0]), type(told[1])), (tuple, str, list))
        self.assertIs(type(match.log()), list)
        for told in match.log():
            self.assertIs(type(told), tuple)
            self.assertEqual([type(part) for part in told], [int] * 3 + [str] * 3 + [tuple, str])
        self.assertIs(type(tell_rows(match, "close").result()), tuple)

    def test_asked_again(self):
        match = match_of("over 1", START, "bat 1 out run a other", "in c", "swap d e")
        self.assertEqual(all_told(match), all_told(match))


class OwnLists(Telling):
    ROWS = (START, "bat 1", "hurt a", "in c", "swap d e", "bat 0 out bowled")

    def test_what_was_handed_in_stays(self):
        rules = rules_of("over 2")
        teams = teams_of()
        entries = read_entries("\n".join(self.ROWS))
        before = copy.deepcopy((rules, teams, entries))
        match = Match(rules, teams)
        for entry in entries:
            match.tell(entry)
        all_told(match)
        self.assertEqual((rules, teams, entries), before)

    def test_what_becomes_of_what_was_handed_in(self):
        teams = teams_of()
        match = Match(rules_of(""), teams)
        teams[0][1].clear()
        teams[1][1][0] = "z"
        teams.pop()
        self.assertEqual(match.players(), teams_of())
        self.refused(match, "name", "swap a p")
        self.assertEqual(tell_rows(match, START).state()[:4], ("reds", "a", "b", "p"))

    def test_changing_what_was_told(self):
        match = match_of("", *self.ROWS)
        before = copy.deepcopy(all_told(match))
        match.innings().clear()
        match.log().clear()
        players = match.players()
        players[0][1].clear()
        players[1][1].append("z")
        players.reverse()
        self.assertEqual(all_told(match), before)

    def test_what_was_told_stays(self):
        match = match_of("", *self.ROWS)
        told = all_told(match)
        before = copy.deepcopy(told)
        tell_rows(match, "in e", "bat 3", "swap q f", "bat 0 out bowled", "declare", "swap e g", BACK.replace("q", "f"))
        tell_rows(match, "bat 1", "close")
        self.assertEqual(told, before)

    def test_no_two_lists_are_one(self):
        match = match_of("", *self.ROWS)
        lists = []
        for count in range(2):
            players = match.players()
            lists += [players, players[0][1], players[1][1], match.innings(), match.log()]
        self.assertEqual(len({id(one) for one in lists}), len(lists))

    def test_what_was_told_may_be_handed_in_again(self):
        first = match_of("", *self.ROWS)
        again = Match(rules_of(""), first.players())
        tell_rows(again, START)
        for ball in first.log()[:1]:
            again.tell(ball[6])
        self.assertEqual(again.log(), first.log()[:1])
        self.assertEqual(again.players(), teams_of("abce"))
        # What the second match does is none of the first one's.
        tell_rows(again, "swap c f")
        self.assertEqual(first.players(), teams_of("abce"))

    def test_two_matches_are_apart(self):
        teams = teams_of()
        one = tell_rows(Match(rules_of(""), teams), "swap a e")
        two = Match(rules_of(""), teams)
        self.assertEqual(two.players(), teams_of())
        tell_rows(two, START, "bat 0 out bowled", "close")
        self.assertEqual(all_told(one), (None, [], "", teams_of("ebcd"), None, []))

    def test_a_refused_entry_counts_nowhere(self):
        rows = (START, "bat 1", "bat 0 out bowled", "in c", "bowl q", "bat 2")
        wrong = (("start", "reds", "a", "b", "p"), ("bowl", "q"), ("in", "p"), ("hurt", "d"), ("swap", "z", "e"),
                 ("swap", "c", "a"), ("follow",), ("ball", "bat", 3, True, "", "", ""))
        plain = match_of("over 2\ninnings 2\nfollow 1", *rows, "declare", BACK)
        match = match_of("over 2\ninnings 2\nfollow 1")
        for row in rows + ("declare", BACK):
            tell_rows(match, row)
            for entry in wrong:
                trial = copy.deepcopy(match)
                before = all_told(trial)
                try:
                    trial.tell(entry)
                except NotLet:
                    self.assertEqual(all_told(trial), before)
                    with self.assertRaises(NotLet):
                        match.tell(entry)
        self.assertEqual(all_told(match), all_told(plain))
        # Nothing that isn't told has changed either: both go on alike.
        for row in ("bat 0", "bat 0 out caught", "bowl b", "in r", "bat 1", "declare", START):
            self.assertEqual(all_told(tell_rows(match, row)), all_told(tell_rows(plain, row)))


if __name__ == "__main__":
    unittest.main()
