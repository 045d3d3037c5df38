"""One innings, as [9], [10] and [11] tell, asked through a match."""

import itertools
import unittest

from inningsbook.match import Match
from inningsbook.rules import read_rules
from telling import Telling, match_of, sixes, tell_rows

KINDS = ("bat", "bye", "leg", "wide", "no", "nobye")
FAIR = ("bat", "bye", "leg")
START = "start reds a b p"


def going(*rows, rules=""):
    return match_of(rules, START, *rows)


class Beginning(Telling):
    def test_who_stands_where(self):
        self.assertEqual(going().state(), ("reds", "a", "b", "p", 0, 0, 0, 0))

    def test_either_team_and_any_players(self):
        match = match_of("", "start blues s q c")
        self.assertEqual(match.state(), ("blues", "s", "q", "c", 0, 0, 0, 0))


class Balls(Telling):
    def test_each_kind_with_each_runs(self):
        given = {"bat": 0, "bye": 0, "leg": 0, "wide": 3, "no": 5, "nobye": 5}
        for kind, runs in itertools.product(KINDS, range(10)):
            with self.subTest(kind=kind, runs=runs):
                match = going(f"{kind} {runs}", rules="wide 3\nnoball 5")
                who = ("b", "a") if runs % 2 == 1 else ("a", "b")
                balls = 1 if kind in FAIR else 0
                self.assertEqual(match.state(), ("reds",) + who + ("p", given[kind] + runs, 0, 0, balls))

    def test_each_kind_with_rope(self):
        given = {"bat": 0, "bye": 0, "leg": 0, "wide": 3, "no": 5, "nobye": 5}
        balls = [(kind, 4) for kind in KINDS] + [("bat", 6), ("no", 6)]
        for kind, runs in balls:
            with self.subTest(kind=kind, runs=runs):
                match = going(f"{kind} {runs} rope", rules="wide 3\nnoball 5")
                fair = 1 if kind in FAIR else 0
                self.assertEqual(match.state(), ("reds", "a", "b", "p", given[kind] + runs, 0, 0, fair))

    def test_several_balls(self):
        match = going("bat 1", "bat 2", "wide 1", "leg 3", "nobye 0", "bye 4 rope")
        self.assertEqual(match.state(), ("reds", "b", "a", "p", 1 + 2 + 2 + 3 + 1 + 4, 0, 0, 4))

    def test_wides_and_no_balls_give_what_the_rules_tell(self):
        match = going("wide 2", "no 1", "nobye 1", rules="wide 0\nnoball 0")
        self.assertEqual(match.state(), ("reds", "a", "b", "p", 4, 0, 0, 0))
        match = going("wide 2", "no 1", "nobye 1", rules="wide 9\nnoball 7")
        self.assertEqual(match.state(), ("reds", "a", "b", "p", 11 + 8 + 8, 0, 0, 0))


class Overs(Telling):
    def test_last_ball_with_even_runs(self):
        for kind, runs in itertools.product(FAIR, (0, 2, 8)):
            with self.subTest(kind=kind, runs=runs):
                match = going("bat 0", "bat 0", f"{kind} {runs}", rules="over 3")
                self.assertEqual(match.state(), ("reds", "b", "a", "", runs, 0, 1, 0))

    def test_last_ball_with_odd_runs(self):
        for kind, runs in itertools.product(FAIR, (1, 3, 9)):
            with self.subTest(kind=kind, runs=runs):
                match = going("bat 0", "bat 0", f"{kind} {runs}", rules="over 3")
                self.assertEqual(match.state(), ("reds", "a", "b", "", runs, 0, 1, 0))

    def test_last_ball_with_rope(self):
        match = going("bat 0", "bat 0", "leg 4 rope", rules="over 3")
        self.assertEqual(match.state(), ("reds", "b", "a", "", 4, 0, 1, 0))

    def test_wides_and_no_balls_end_no_over(self):
        match = going("bat 0", "bat 0", "wide 0", "no 2", "nobye 2", "wide 1", rules="over 3")
        self.assertEqual(match.state(), ("reds", "b", "a", "p", 9, 0, 0, 2))
        self.assertEqual(tell_rows(match, "bat 0").state(), ("reds", "a", "b", "", 9, 0, 1, 0))

    def test_every_length_of_an_over(self):
        for over in range(1, 13):
            with self.subTest(over=over):
                match = going(*["bat 0"] * (over - 1), rules=f"over {over}")
                self.assertEqual(match.state(), ("reds", "a", "b", "p", 0, 0, 0, over - 1))
                tell_rows(match, "bat 0")
                self.assertEqual(match.state(), ("reds", "b", "a", "", 0, 0, 1, 0))

    def test_over_behind_over(self):
        match = going("bat 1", "bat 0", "bowl q", rules="over 2")
        self.assertEqual(match.state(), ("reds", "a", "b", "q", 1, 0, 1, 0))
        tell_rows(match, "bat 0", "wide 0", "bat 3")
        self.assertEqual(match.state(), ("reds", "a", "b", "", 5, 0, 2, 0))
        self.assertEqual(tell_rows(match, "bowl p").state(), ("reds", "a", "b", "p", 5, 0, 2, 0))

    def test_no_bound_to_the_overs(self):
        match = going("bat 0", rules="over 1\novers 0")
        for number in range(1, 120):
            self.assertEqual(match.state()[6], number)
            tell_rows(match, "bowl " + ("q" if number % 2 else "p"), "bat 0")


class Outs(Telling):
    def test_each_way_but_run(self):
        balls = [("bat", way) for way in ("bowled", "caught", "before", "stumped", "hit")]
        balls += [("wide", "stumped"), ("wide", "hit")]
        for kind, way in balls:
            with self.subTest(kind=kind, way=way):
                fair = 1 if kind == "bat" else 0
                match = going(f"{kind} 0 out {way}")
                self.assertEqual(match.state(), ("reds", "", "b", "p", 1 - fair, 1, 0, fair))
                self.assertEqual(match.log()[-1][7], "a")
                tell_rows(match, "in c")
                self.assertEqual(match.state(), ("reds", "c", "b", "p", 1 - fair, 1, 0, fair))

    def test_each_way_but_run_where_the_other_faces(self):
        for way in ("bowled", "caught", "before", "stumped", "hit"):
            match = going("bat 1", f"bat 0 out {way}")
            self.assertEqual(match.state(), ("reds", "", "a", "p", 1, 1, 0, 2))
            self.assertEqual(match.log()[-1][7], "b")

    def test_out_on_the_last_ball_of_an_over(self):
        match = going("bat 0", "bat 0 out caught", rules="over 2")
        self.assertEqual(match.state(), ("reds", "b", "", "", 0, 1, 1, 0))
        self.assertEqual(tell_rows(match, "in c").state(), ("reds", "b", "c", "", 0, 1, 1, 0))

    def test_stumped_by_a_wide_ends_no_over(self):
        match = going("bat 0", "wide 0 out stumped", rules="over 2")
        self.assertEqual(match.state(), ("reds", "", "b", "p", 1, 1, 0, 1))

    def test_run_with_each_end_and_any_runs(self):
        for kind, runs, who, end in itertools.product(KINDS, range(10), ("a", "b"), ("strike", "other")):
            with self.subTest(kind=kind, runs=runs, who=who, end=end):
                match = going(f"{kind} {runs} out run {who} {end}", rules="wide 0\nnoball 0")
                stays = "b" if who == "a" else "a"
                places = ("", stays) if end == "strike" else (stays, "")
                balls = 1 if kind in FAIR else 0
                self.assertEqual(match.state(), ("reds",) + places + ("p", runs, 1, 0, balls))
                self.assertEqual(match.log()[-1][7], who)

    def test_run_on_the_last_ball_of_an_over(self):
        for kind, runs, who, end in itertools.product(FAIR, range(10), ("a", "b"), ("strike", "other")):
            with self.subTest(kind=kind, runs=runs, who=who, end=end):
                match = going("bat 0", f"{kind} {runs} out run {who} {end}", rules="over 2")
                stays = "b" if who == "a" else "a"
                places = (stays, "") if end == "strike" else ("", stays)
                self.assertEqual(match.state(), ("reds",) + places + ("", runs, 1, 1, 0))

    def test_the_next_one_fills_the_empty_place(self):
        self.places(going("bat 1 out run a other", "in c"), "b", "c")
        self.places(going("bat 1 out run a strike", "in c"), "c", "b")
        self.places(going("bat 0", "bat 1 out run b other", "in c", rules="over 2"), "c", "a")

    def test_wickets_are_counted_for_each_who_is_out(self):
        match = going("bat 0 out bowled", "in c", "bat 2 out run b strike", "in d")
        self.assertEqual(match.state(), ("reds", "d", "c", "p", 2, 2, 0, 2))


class HurtAndIn(Telling):
    def test_hurt_of_one(self):
        self.assertEqual(going("bat 2", "hurt a").state(), ("reds", "", "b", "p", 2, 0, 0, 1))
        self.assertEqual(going("bat 2", "hurt b").state(), ("reds", "a", "", "p", 2, 0, 0, 1))

    def test_in_behind_hurt_of_one(self):
        self.places(going("hurt a", "in c"), "c", "b")
        self.places(going("hurt b", "in c"), "a", "c")

    def test_hurt_of_both(self):
        for first, second in (("a", "b"), ("b", "a")):
            with self.subTest(first=first):
                match = going(f"hurt {first}", f"hurt {second}")
                self.assertEqual(match.state(), ("reds", "", "", "p", 0, 0, 0, 0))
                self.places(tell_rows(match, "in c"), "c", "")
                self.places(tell_rows(match, "in d"), "c", "d")

    def test_who_left_comes_in_again(self):
        self.places(going("hurt a", "in a"), "a", "b")
        self.places(going("hurt a", "hurt b", "in b", "in a"), "b", "a")
        self.places(going("hurt b", "in c", "bat 0 out bowled", "in b"), "b", "c")

    def test_hurt_behind_an_out(self):
        match = going("bat 0 out bowled", "hurt b")
        self.assertEqual(match.state(), ("reds", "", "", "p", 0, 1, 0, 1))
        self.places(tell_rows(match, "in d", "in b"), "d", "b")

    def test_hurt_and_in_between_overs(self):
        match = going("bat 0", "hurt b", "in c", "hurt a", rules="over 1")
        self.assertEqual(match.state(), ("reds", "c", "", "", 0, 0, 1, 0))
        self.assertEqual(tell_rows(match, "bowl q", "in a").state(), ("reds", "c", "a", "q", 0, 0, 1, 0))

    def test_hurt_is_no_ball_and_no_wicket(self):
        match = going("hurt a", "in c", "hurt b", "in a")
        self.assertEqual(match.log(), [])
        self.assertEqual(match.state(), ("reds", "c", "a", "p", 0, 0, 0, 0))


class EndingWon(Telling):
    FIRST = (START, "bat 4 rope", "declare", "start blues p q a")

    def test_as_soon_as_the_sum_is_above(self):
        match = match_of("", *self.FIRST, "bat 4")
        self.assertEqual(match.innings()[1], ("blues", 4, 0, 0, 1, ""))
        tell_rows(match, "bat 1")
        self.assertEqual(match.innings()[1], ("blues", 5, 0, 0, 2, "won"))
        self.assertIsNone(match.state())

    def test_by_any_kind_of_ball(self):
        for kind in KINDS:
            with self.subTest(kind=kind):
                match = match_of("", *self.FIRST, "bat 4", f"{kind} 1")
                self.assertEqual(match.innings()[1][5], "won")

    def test_by_a_wide_without_runs(self):
        match = match_of("", *self.FIRST, "bat 4", "wide 0")
        self.assertEqual(match.innings()[1], ("blues", 5, 0, 0, 1, "won"))

    def test_not_in_an_innings_ahead_of_the_last(self):
        match = match_of("innings 2", *self.FIRST, "bat 9", "bat 9")
        self.assertEqual(match.innings()[1], ("blues", 18, 0, 0, 2, ""))
        tell_rows(match, "declare", "start reds a b p", "bat 9", "bat 9")
        self.assertEqual(match.innings()[2], ("reds", 18, 0, 0, 2, ""))

    def test_the_sum_of_all_innings_counts(self):
        rows = self.FIRST + ("bat 9", "declare", START, "bat 8", "declare", "start blues p q a")
        match = match_of("innings 2", *rows, "bat 3")
        self.assertEqual(match.innings()[3], ("blues", 3, 0, 0, 1, ""))
        tell_rows(match, "bye 1")
        self.assertEqual(match.innings()[3], ("blues", 4, 0, 0, 2, "won"))

    def test_ahead_of_all_out(self):
        rows = self.FIRST + ("bat 4", "bat 0 out bowled", "in r", "bat 0 out bowled", "in s")
        match = match_of("", *rows, "bat 1 out run s strike")
        self.assertEqual(match.innings()[1], ("blues", 5, 3, 0, 4, "won"))

    def test_ahead_of_the_overs(self):
        match = match_of("over 2\novers 1", *self.FIRST, "bat 4", "bat 1")
        self.assertEqual(match.innings()[1], ("blues", 5, 0, 1, 0, "won"))

    def test_level_is_not_above(self):
        match = match_of("over 2\novers 1", *self.FIRST, "bat 4", "bat 0")
        self.assertEqual(match.innings()[1], ("blues", 4, 0, 1, 0, "overs"))


class EndingOut(Telling):
    DOWN = ("bat 0 out bowled", "in c", "bat 0 out bowled", "in d")

    def test_the_last_wicket(self):
        match = going(*self.DOWN)
        self.assertEqual(match.innings(), [("reds", 0, 2, 0, 2, "")])
        tell_rows(match, "bat 0 out bowled")
        self.assertEqual(match.innings(), [("reds", 0, 3, 0, 3, "out")])
        self.assertIsNone(match.state())

    def test_every_way_ends_it(self):
        for row in ("bat 0 out caught", "wide 0 out hit", "no 3 out run b other", "bat 1 out run d strike"):
            with self.subTest(row=row):
                self.assertEqual(going(*self.DOWN, row).innings()[0][5], "out")

    def test_no_end_while_one_is_left(self):
        self.assertEqual(going("bat 0 out bowled").innings()[0][5], "")
        self.assertEqual(going("bat 0 out bowled", "in c", "bat 0 out bowled").innings()[0][5], "")

    def test_who_left_hurt_is_left(self):
        match = going("hurt a", "in c", "bat 0 out bowled", "in d", "bat 0 out bowled")
        self.assertEqual(match.state(), ("reds", "", "b", "p", 0, 2, 0, 2))
        tell_rows(match, "in a", "bat 0 out bowled")
        self.assertEqual(match.innings(), [("reds", 0, 3, 0, 3, "out")])

    def test_hurt_of_the_last_two_ends_nothing(self):
        match = going(*self.DOWN, "hurt b")
        self.places(match, "d", "")
        self.places(tell_rows(match, "hurt d"), "", "")
        self.places(tell_rows(match, "in b"), "b", "")
        self.places(tell_rows(match, "in d"), "b", "d")
        self.assertEqual(tell_rows(match, "bat 0 out hit").innings(), [("reds", 0, 3, 0, 3, "out")])

    def test_both_places_empty_and_one_left(self):
        match = going("bat 0 out bowled", "hurt b", "in c", "in d", "bat 0 out bowled", "in b", "bat 0 out bowled")
        self.assertEqual(match.innings(), [("reds", 0, 3, 0, 3, "out")])

    def test_ahead_of_the_overs(self):
        match = going(*self.DOWN, "bat 0 out bowled", rules="over 3\novers 1")
        self.assertEqual(match.innings(), [("reds", 0, 3, 1, 0, "out")])

    def test_a_side_of_two(self):
        match = Match(read_rules("side 2"), [("reds", ["a", "b"]), ("blues", ["p", "q"])])
        tell_rows(match, START, "hurt a", "in a", "bat 1", "bat 0 out bowled")
        self.assertEqual(match.innings(), [("reds", 1, 1, 0, 2, "out")])


class EndingOvers(Telling):
    def test_the_most_overs(self):
        match = going("bat 0", "bat 1", "bowl q", "bat 0", rules="over 2\novers 2")
        self.assertEqual(match.innings(), [("reds", 1, 0, 1, 1, "")])
        self.assertEqual(tell_rows(match, "bat 2").innings(), [("reds", 3, 0, 2, 0, "overs")])
        self.assertIsNone(match.state())

    def test_a_wide_doesnt_end_it(self):
        match = going("bat 0", "wide 0", "no 0", "nobye 0", rules="over 2\novers 1")
        self.assertEqual(match.innings(), [("reds", 3, 0, 0, 1, "")])

    def test_with_a_wicket_on_the_last_ball(self):
        match = going("bat 0 out bowled", rules="over 1\novers 1")
        self.assertEqual(match.innings(), [("reds", 0, 1, 1, 0, "overs")])

    def test_in_each_innings(self):
        match = going("bat 0", "start blues p q a", "bat 0", rules="over 1\novers 1")
        self.assertEqual([told[5] for told in match.innings()], ["overs", "overs"])


class EndingDeclared(Telling):
    def test_at_any_time(self):
        self.assertEqual(going("declare").innings(), [("reds", 0, 0, 0, 0, "declared")])
        match = going("bat 3", "hurt a", "declare")
        self.assertEqual(match.innings(), [("reds", 3, 0, 0, 1, "declared")])
        self.assertIsNone(match.state())
        match = going("bat 3", "declare", rules="over 1")
        self.assertEqual(match.innings(), [("reds", 3, 0, 1, 0, "declared")])

    def test_in_the_last_innings(self):
        match = match_of("", START, *sixes(1), "declare", "start blues p q a", "declare")
        self.assertEqual(match.innings()[1], ("blues", 0, 0, 0, 0, "declared"))
        self.assertEqual(match.result(), ("won", "reds"))


class Apart(Telling):
    def test_nothing_goes_over_into_the_next_innings(self):
        rows = ["bat 0 out bowled", "in c", "bat 1", "bat 1", "bowl q", "bat 0", "declare", "start blues q p a"]
        match = match_of("innings 2\nover 3\nspell 1", START, *rows)
        self.assertEqual(match.state(), ("blues", "q", "p", "a", 0, 0, 0, 0))
        tell_rows(match, "bat 0 out bowled", "declare", "start reds a c q", "bat 0", "bat 0", "bat 0")
        self.assertEqual(match.state(), ("reds", "c", "a", "", 0, 0, 1, 0))
        self.assertEqual(tell_rows(match, "bowl p").state()[3], "p")


if __name__ == "__main__":
    unittest.main()
