"""Sums over logs, as [16] and [17] tell, and what [2] asks of them."""

import copy
import itertools
import unittest

from inningsbook.balls import ball_fault
from inningsbook.entries import read_entries
from inningsbook.errors import NotLet
from inningsbook.match import Match
from inningsbook.sums import batters, bowlers, extras, pairs, stretch
from telling import Telling, match_of, rules_of, teams_of

START = "start reds a b p"
BACK = "start blues p q a"
KINDS = ("bat", "bye", "leg", "wide", "no", "nobye")
ALL = (batters, bowlers, extras, pairs)

# A wide gives 3 and a no ball 5, so that no two sums are alike by chance.
GIVEN = "wide 3\nnoball 5\n"
RULES = rules_of(GIVEN)


def log_of(*rows, rules=""):
    return match_of(GIVEN + rules, *rows).log()


def ball_of(row, innings=0, facing="a", other="b", bowler="p", out=""):
    return (innings, 0, 0, facing, other, bowler, read_entries(row)[0], out)


class Batters(Telling):
    def test_one_innings(self):
        log = log_of(START, "bat 1", "bat 4 rope", "bat 0 out bowled", "in c", "bat 6 rope", "bat 3", "bat 2")
        self.assertEqual(batters(RULES, log), [
            (0, "a", 3, 2, 0, 0, ""),
            (0, "b", 4, 2, 1, 0, "bowled"),
            (0, "c", 9, 2, 0, 1, ""),
        ])

    def test_each_kind(self):
        wanted = {"bat": (4, 1), "bye": (0, 1), "leg": (0, 1), "wide": (0, 0), "no": (4, 1), "nobye": (0, 1)}
        for kind in KINDS:
            with self.subTest(kind=kind):
                told = batters(RULES, log_of(START, f"{kind} 4"))
                self.assertEqual(told, [(0, "a") + wanted[kind] + (0, 0, ""), (0, "b", 0, 0, 0, 0, "")])

    def test_fours_and_sixes(self):
        wanted = {"bat": 1, "bye": 0, "leg": 0, "wide": 0, "no": 1, "nobye": 0}
        for kind in KINDS:
            with self.subTest(kind=kind):
                self.assertEqual(batters(RULES, log_of(START, f"{kind} 4 rope"))[0][4:6], (wanted[kind], 0))
                self.assertEqual(batters(RULES, log_of(START, f"{kind} 4"))[0][4:6], (0, 0))
                self.assertEqual(batters(RULES, log_of(START, f"{kind} 6"))[0][4:6], (0, 0))
        for kind in ("bat", "no"):
            self.assertEqual(batters(RULES, log_of(START, f"{kind} 6 rope"))[0][2:6], (6, 1, 0, 1))
        log = log_of(START, *["bat 4 rope", "no 4 rope", "no 6 rope"] * 2, "bat 6 rope", "leg 4 rope")
        self.assertEqual(batters(RULES, log)[0], (0, "a", 34, 8, 4, 3, ""))

    def test_who_faced_goes_ahead_of_the_other(self):
        self.assertEqual([told[1] for told in batters(RULES, log_of("start reds b a p", "bat 0"))], ["b", "a"])
        log = log_of(START, "hurt a", "hurt b", "in d", "in c", "bat 1", "bat 0")
        self.assertEqual([told[1] for told in batters(RULES, log)], ["d", "c"])
        log = log_of(START, "bat 0", "hurt a", "hurt b", "in d", "in b", "wide 0")
        self.assertEqual([told[1] for told in batters(RULES, log)], ["a", "b", "d"])

    def test_who_stood_on_no_ball_is_none(self):
        log = log_of(START, "hurt a", "in c", "bat 0")
        self.assertEqual([told[1] for told in batters(RULES, log)], ["c", "b"])

    def test_who_never_faced_is_one(self):
        log = log_of(START, "bat 2 out run b other", "in c", "bat 4")
        self.assertEqual(batters(RULES, log), [
            (0, "a", 6, 2, 0, 0, ""), (0, "b", 0, 0, 0, 0, "run"), (0, "c", 0, 0, 0, 0, ""),
        ])

    def test_each_way(self):
        for way in ("bowled", "caught", "before", "stumped", "hit"):
            told = batters(RULES, log_of(START, f"bat 0 out {way}"))
            self.assertEqual([row[6] for row in told], [way, ""])
        self.assertEqual(batters(RULES, log_of(START, "wide 0 out stumped"))[0], (0, "a", 0, 0, 0, 0, "stumped"))
        for who, ways in (("a", ["run", ""]), ("b", ["", "run"])):
            for end, runs in itertools.product(("strike", "other"), (0, 1, 2, 3)):
                told = batters(RULES, log_of(START, f"bat {runs} out run {who} {end}"))
                self.assertEqual([row[6] for row in told], ways)
                self.assertEqual(told[0][2:4], (runs, 1))

    def test_who_comes_in_again_is_one(self):
        log = log_of(START, "bat 2", "hurt a", "in c", "bat 4", "hurt c", "in a", "bat 1", "bat 0 out bowled")
        self.assertEqual(batters(RULES, log), [
            (0, "a", 3, 2, 0, 0, ""), (0, "b", 0, 1, 0, 0, "bowled"), (0, "c", 4, 1, 0, 0, ""),
        ])

    def test_several_innings(self):
        log = log_of(START, "bat 2", "bat 0 out hit", "declare", BACK, "bat 1", "declare", START, "bat 3", "bat 5",
                     rules="innings 2")
        self.assertEqual(batters(RULES, log), [
            (0, "a", 2, 2, 0, 0, "hit"), (0, "b", 0, 0, 0, 0, ""),
            (1, "p", 1, 1, 0, 0, ""), (1, "q", 0, 0, 0, 0, ""),
            (2, "a", 3, 1, 0, 0, ""), (2, "b", 5, 1, 0, 0, ""),
        ])

    def test_a_swapped_player_is_another(self):
        log = log_of(START, "bat 2", "hurt a", "swap a e", "in e", "bat 4")
        self.assertEqual(batters(RULES, log), [
            (0, "a", 2, 1, 0, 0, ""), (0, "b", 0, 0, 0, 0, ""), (0, "e", 4, 1, 0, 0, ""),
        ])


class Bowlers(Telling):
    def test_each_kind(self):
        wanted = {"bat": (1, 2, 0, 0, 0), "bye": (1, 0, 0, 0, 0), "leg": (1, 0, 0, 0, 0),
                  "wide": (0, 5, 0, 1, 0), "no": (0, 7, 0, 0, 1), "nobye": (0, 5, 0, 0, 1)}
        for kind in KINDS:
            with self.subTest(kind=kind):
                self.assertEqual(bowlers(RULES, log_of(START, f"{kind} 2")), [(0, "p") + wanted[kind]])

    def test_wickets_credited(self):
        for way in ("bowled", "caught", "before", "stumped", "hit"):
            self.assertEqual(bowlers(RULES, log_of(START, f"bat 0 out {way}")), [(0, "p", 1, 0, 1, 0, 0)])
        self.assertEqual(bowlers(RULES, log_of(START, "wide 0 out hit")), [(0, "p", 0, 3, 1, 1, 0)])
        self.assertEqual(bowlers(RULES, log_of(START, "bat 1 out run a other")), [(0, "p", 1, 1, 0, 0, 0)])

    def test_in_the_order_of_their_first_balls(self):
        log = log_of(START, "bat 1", "bat 0", "bowl s", "bat 2", "wide 0", "bat 0", "bowl q", "no 1", "bat 0 out hit",
                     "in c", "bye 1", "bowl p", "bat 4", "wide 1", "nobye 1", rules="over 2")
        self.assertEqual(bowlers(RULES, log), [
            (0, "p", 3, 14, 0, 1, 1), (0, "s", 2, 5, 0, 1, 0), (0, "q", 2, 6, 1, 0, 1),
        ])

    def test_who_bowled_no_ball_is_none(self):
        log = log_of(START, "bat 1", "bowl s", "declare", BACK, "bat 0", rules="over 1")
        self.assertEqual(bowlers(RULES, log), [(0, "p", 1, 1, 0, 0, 0), (1, "a", 1, 0, 0, 0, 0)])

    def test_several_innings(self):
        log = log_of(START, "bat 2", "declare", BACK, "bat 1", "declare", START, "bat 3", rules="innings 2")
        self.assertEqual(bowlers(RULES, log), [
            (0, "p", 1, 2, 0, 0, 0), (1, "a", 1, 1, 0, 0, 0), (2, "p", 1, 3, 0, 0, 0),
        ])


class Extras(Telling):
    def test_each_kind(self):
        wanted = {"bat": (0, 0, 0, 0), "bye": (2, 0, 0, 0), "leg": (0, 2, 0, 0),
                  "wide": (0, 0, 5, 0), "no": (0, 0, 0, 5), "nobye": (2, 0, 0, 5)}
        for kind in KINDS:
            with self.subTest(kind=kind):
                self.assertEqual(extras(RULES, log_of(START, f"{kind} 2")), [(0,) + wanted[kind]])

    def test_all_together(self):
        log = log_of(START, *[f"{kind} {runs}" for kind in KINDS for runs in (0, 1, 4)], rules="over 12")
        self.assertEqual(extras(RULES, log), [(0, 5 + 5, 5, 9 + 5, 6 * 5)])

    def test_an_innings_without_extras(self):
        self.assertEqual(extras(RULES, log_of(START, "bat 1")), [(0, 0, 0, 0, 0)])

    def test_an_innings_without_a_ball(self):
        log = log_of(START, "declare", BACK, "bye 2", "declare", START, "declare", rules="innings 2")
        self.assertEqual(extras(RULES, log), [(1, 2, 0, 0, 0)])

    def test_several_innings(self):
        log = log_of(START, "bye 1", "declare", BACK, "leg 3", "declare", START, "wide 0", rules="innings 2")
        self.assertEqual(extras(RULES, log), [(0, 1, 0, 0, 0), (1, 0, 3, 0, 0), (2, 0, 0, 3, 0)])

    def test_rising(self):
        log = [ball_of("bye 2", innings=3), ball_of("leg 1", innings=0), ball_of("bye 1", innings=3)]
        self.assertEqual(extras(RULES, log), [(0, 0, 1, 0, 0), (3, 3, 0, 0, 0)])


class Pairs(Telling):
    def test_whoever_faces(self):
        log = log_of(START, "bat 1", "bat 1", "leg 3", "wide 1", "bat 4 rope")
        self.assertEqual(pairs(RULES, log), [(0, "a", "b", 13, 4)])

    def test_names_are_sorted(self):
        self.assertEqual(pairs(RULES, log_of("start reds d b p", "bat 0"))[0][1:3], ("b", "d"))
        self.assertEqual(pairs(RULES, log_of("start reds b d p", "bat 0"))[0][1:3], ("b", "d"))

    def test_all_that_the_team_got_and_fair_balls(self):
        wanted = {"bat": (2, 1), "bye": (2, 1), "leg": (2, 1), "wide": (5, 0), "no": (7, 0), "nobye": (7, 0)}
        for kind in KINDS:
            with self.subTest(kind=kind):
                self.assertEqual(pairs(RULES, log_of(START, f"{kind} 2")), [(0, "a", "b") + wanted[kind]])

    def test_parted_by_an_out(self):
        log = log_of(START, "bat 2", "bat 0 out bowled", "in c", "bat 1", "no 0", "bat 3 out run c other", "in d",
                     "bye 2")
        self.assertEqual(pairs(RULES, log), [(0, "a", "b", 2, 2), (0, "b", "c", 9, 2), (0, "b", "d", 2, 1)])

    def test_the_same_two_again_begin_anew(self):
        log = log_of(START, "bat 2", "hurt a", "in c", "bat 4", "hurt c", "in a", "bat 6")
        self.assertEqual(pairs(RULES, log), [(0, "a", "b", 2, 1), (0, "b", "c", 4, 1), (0, "a", "b", 6, 1)])

    def test_not_parted_without_a_ball_between(self):
        log = log_of(START, "bat 2", "hurt a", "in c", "hurt c", "in a", "bat 6")
        self.assertEqual(pairs(RULES, log), [(0, "a", "b", 8, 2)])

    def test_not_parted_by_an_over(self):
        log = log_of(START, "bat 2", "bowl q", "bat 4", "bowl p", "bat 1", rules="over 1")
        self.assertEqual(pairs(RULES, log), [(0, "a", "b", 7, 3)])

    def test_parted_by_another_innings(self):
        log = log_of(START, "bat 2", "declare", BACK, "declare", START, "bat 4", rules="innings 2")
        self.assertEqual(pairs(RULES, log), [(0, "a", "b", 2, 1), (2, "a", "b", 4, 1)])

    def test_one_behind_the_other_in_the_list_handed_in(self):
        log = log_of(START, "bat 2", "hurt a", "in c", "bat 4", "hurt c", "in a", "bat 6")
        self.assertEqual(pairs(RULES, [log[0], log[2]]), [(0, "a", "b", 8, 2)])


class Stretch(Telling):
    LOG = log_of(START, "bat 2", "wide 1", "bat 0 out bowled", "in c", "bat 1 out run a strike", "in d", "nobye 2")

    def test_from_first_to_last(self):
        self.assertEqual(stretch(RULES, self.LOG, 0, 4), (2 + 4 + 0 + 1 + 7, 2, 3))
        self.assertEqual(stretch(RULES, self.LOG, 0, 1), (6, 0, 1))
        self.assertEqual(stretch(RULES, self.LOG, 1, 3), (5, 2, 2))
        self.assertEqual(stretch(RULES, self.LOG, 3, 4), (8, 1, 1))

    def test_one_ball(self):
        told = [stretch(RULES, self.LOG, number, number) for number in range(5)]
        self.assertEqual(told, [(2, 0, 1), (4, 0, 0), (0, 1, 1), (1, 1, 1), (7, 0, 0)])

    def test_over_several_innings(self):
        log = log_of(START, "bat 2", "bat 1", "declare", BACK, "bat 3", "no 1")
        self.assertEqual(stretch(RULES, log, 1, 2), (4, 0, 2))
        self.assertEqual(stretch(RULES, log, 0, 3), (12, 0, 3))

    def test_each_kind(self):
        wanted = [(2, 0, 1), (2, 0, 1), (2, 0, 1), (5, 0, 0), (7, 0, 0), (7, 0, 0)]
        log = log_of(START, *[f"{kind} 2" for kind in KINDS])
        self.assertEqual([stretch(RULES, log, number, number) for number in range(6)], wanted)

    def test_kinds_of_what_is_told(self):
        told = stretch(RULES, self.LOG, 0, 4)
        self.assertIs(type(told), tuple)
        self.assertEqual([type(part) for part in told], [int] * 3)


class Parts(Telling):
    LOG = log_of(START, "bat 2", "bat 1", "bowl q", "no 4 rope", "bat 0 out bowled", "in c", "bye 1", "declare", BACK,
                 "leg 2", "bat 4 rope", "bowl b", "bat 3", rules="over 2\ninnings 2")

    def test_no_ball(self):
        for asked in ALL:
            self.assertEqual(asked(RULES, []), [])

    def test_a_part(self):
        part = self.LOG[2:6]
        self.assertEqual(batters(RULES, part), [
            (0, "a", 4, 2, 1, 0, "bowled"), (0, "b", 0, 0, 0, 0, ""), (0, "c", 0, 1, 0, 0, ""),
            (1, "p", 0, 1, 0, 0, ""), (1, "q", 0, 0, 0, 0, ""),
        ])
        self.assertEqual(bowlers(RULES, part), [(0, "q", 2, 9, 1, 0, 1), (1, "a", 1, 0, 0, 0, 0)])
        self.assertEqual(extras(RULES, part), [(0, 1, 0, 0, 5), (1, 0, 2, 0, 0)])
        self.assertEqual(pairs(RULES, part), [(0, "a", "b", 9, 1), (0, "b", "c", 1, 1), (1, "p", "q", 2, 1)])

    def test_balls_apart(self):
        part = self.LOG[::4]
        self.assertEqual(pairs(RULES, part), [(0, "a", "b", 2, 1), (0, "b", "c", 1, 1)])
        self.assertEqual([told[1] for told in batters(RULES, part)], ["a", "b", "c"])
        self.assertEqual(bowlers(RULES, part), [(0, "p", 1, 2, 0, 0, 0), (0, "q", 1, 0, 0, 0, 0)])

    def test_the_numbers_of_the_rules_hold(self):
        log = [ball_of("wide 0"), ball_of("no 0"), ball_of("nobye 0")]
        for wide, noball in ((0, 0), (9, 0), (0, 9), (2, 7)):
            rules = rules_of(f"wide {wide}\nnoball {noball}")
            self.assertEqual(extras(rules, log), [(0, 0, 0, wide, 2 * noball)])
            self.assertEqual(bowlers(rules, log), [(0, "p", 0, wide + 2 * noball, 0, 1, 2)])
            self.assertEqual(pairs(rules, log), [(0, "a", "b", wide + 2 * noball, 0)])
            self.assertEqual(stretch(rules, log, 0, 2), (wide + 2 * noball, 0, 0))


class Own(Telling):
    def test_what_was_handed_in_stays(self):
        log = list(Parts.LOG)
        before = copy.deepcopy(log)
        for asked in ALL:
            asked(RULES, log)
        stretch(RULES, log, 1, 3)
        self.assertEqual(log, before)

    def test_what_is_told_is_the_askers_own(self):
        for asked in ALL:
            told = asked(RULES, Parts.LOG)
            before = list(told)
            told.clear()
            self.assertEqual(asked(RULES, Parts.LOG), before)
            self.assertIsNot(asked(RULES, Parts.LOG), asked(RULES, Parts.LOG))

    def test_kinds(self):
        kinds = {batters: [int, str] + [int] * 4 + [str], bowlers: [int, str] + [int] * 5, extras: [int] * 5,
                 pairs: [int, str, str, int, int]}
        for asked in ALL:
            told = asked(RULES, Parts.LOG)
            self.assertIs(type(told), list)
            for row in told:
                self.assertIs(type(row), tuple)
                self.assertEqual([type(part) for part in row], kinds[asked])


class Agreeing(Telling):
    """Matches of all kinds of balls, drawn by a fixed reckoning, so that each run plays the same ones."""

    def draws(self, seed):
        number = seed
        while True:
            number = (number * 1103515245 + 12345) % 2147483648
            yield number // 65536

    def ball(self, draw, match):
        kind = KINDS[next(draw) % 6]
        way = ("bowled", "before", "stumped", "run", "run")[next(draw) % 5] if next(draw) % 5 == 0 else ""
        runs = (0, 0, 1, 2, 3, 4, 4, 6)[next(draw) % 8] if way in ("", "run") else 0
        rope = way == "" and next(draw) % 2 == 0
        who, end = ("", "")
        if way == "run":
            who = match.state()[1 + next(draw) % 2]
            end = ("strike", "other")[next(draw) % 2]
        return ("ball", kind, runs, rope, way, who, end)

    def entry(self, draw, match):
        if match.state() is None:
            name = match.turn() or "reds"
            teams = dict(match.players())
            other = "blues" if name == "reds" else "reds"
            return ("start", name, teams[name][0], teams[name][1], teams[other][next(draw) % 4])
        batting, facing, other, bowler = match.state()[:4]
        names = sorted("abcdpqrs")
        if "" in (facing, other):
            return ("in", names[next(draw) % 8])
        if bowler == "":
            return ("bowl", names[next(draw) % 8])
        if next(draw) % 30 == 0:
            return (("hurt", facing), ("hurt", other), ("declare",))[next(draw) % 3]
        return self.ball(draw, match)

    def played(self, seed):
        draw = self.draws(seed)
        rules = rules_of(f"wide {seed % 4}\nnoball {seed % 3}\nover {1 + seed % 6}\ninnings 2\novers {seed % 9}")
        match = Match(rules, teams_of())
        for count in range(600):
            if match.result() is not None:
                break
            entry = self.entry(draw, match)
            if entry[0] == "ball" and ball_fault(entry) is not None:
                continue
            try:
                match.tell(entry)
            except NotLet:
                continue
        return (rules, match)

    def test_the_sums_agree_with_the_sum_of_the_innings(self):
        balls = 0
        for seed in range(1, 61):
            rules, match = self.played(seed)
            log = match.log()
            balls += len(log)
            for number, (team, total, wickets, overs, fair, ending) in enumerate(match.innings()):
                with self.subTest(seed=seed, innings=number):
                    bat = [told for told in batters(rules, log) if told[0] == number]
                    bowl = [told for told in bowlers(rules, log) if told[0] == number]
                    extra = [told for told in extras(rules, log) if told[0] == number]
                    pair = [told for told in pairs(rules, log) if told[0] == number]
                    beside = sum(sum(told[1:]) for told in extra)
                    byes = sum(told[1] + told[2] for told in extra)
                    self.assertEqual(sum(told[2] for told in bat) + beside, total)
                    self.assertEqual(sum(told[3] for told in bowl) + byes, total)
                    self.assertEqual(sum(told[3] for told in pair), total)
                    self.assertEqual(sum(1 for told in bat if told[6] != ""), wickets)
                    self.assertEqual(sum(told[2] for told in bowl), overs * rules[0] + fair)
                    self.assertEqual(sum(told[4] for told in pair), overs * rules[0] + fair)
                    numbers = [at for at, ball in enumerate(log) if ball[0] == number]
                    if numbers:
                        told = stretch(rules, log, numbers[0], numbers[-1])
                        self.assertEqual(told, (total, wickets, overs * rules[0] + fair))
        self.assertGreater(balls, 2000)


if __name__ == "__main__":
    unittest.main()
