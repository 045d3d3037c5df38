"""One ball, as [7] and [8] tell."""

import itertools
import unittest

from inningsbook.balls import ball_fault, ball_sums
from inningsbook.entries import read_entries
from inningsbook.rules import read_rules

KINDS = ("bat", "bye", "leg", "wide", "no", "nobye")
WAYS = ("bowled", "caught", "before", "stumped", "hit", "run")

# A wide gives 3 and a no ball 5; no other number of the rules is one of these.
RULES = (6, 20, 4, 3, 5, 11, 2, 150)


def ball(kind, runs, rope=False, way=""):
    who, end = ("anna", "other") if way == "run" else ("", "")
    return ("ball", kind, runs, rope, way, who, end)


def every_ball():
    for kind, runs, rope, way in itertools.product(KINDS, range(10), (False, True), ("",) + WAYS):
        yield ball(kind, runs, rope, way)


class Rope(unittest.TestCase):
    def test_every_kind_with_every_runs(self):
        good = {kind: (4,) for kind in KINDS}
        good["bat"] = (4, 6)
        good["no"] = (4, 6)
        for kind, runs in itertools.product(KINDS, range(10)):
            with self.subTest(kind=kind, runs=runs):
                wanted = None if runs in good[kind] else "rope"
                self.assertEqual(ball_fault(ball(kind, runs, True)), wanted)

    def test_six_by_kind(self):
        wanted = [None, "rope", "rope", "rope", None, "rope"]
        self.assertEqual([ball_fault(ball(kind, 6, True)) for kind in KINDS], wanted)

    def test_any_runs_without_a_rope(self):
        for kind, runs in itertools.product(KINDS, range(10)):
            with self.subTest(kind=kind, runs=runs):
                self.assertIsNone(ball_fault(ball(kind, runs)))

    def test_rope_goes_ahead_of_way(self):
        for kind, way in itertools.product(KINDS, WAYS):
            for runs in (0, 1, 2, 3, 5, 7, 8, 9):
                with self.subTest(kind=kind, way=way, runs=runs):
                    self.assertEqual(ball_fault(ball(kind, runs, True, way)), "rope")
        for kind, way in itertools.product(("bye", "leg", "wide", "nobye"), WAYS):
            with self.subTest(kind=kind, way=way):
                self.assertEqual(ball_fault(ball(kind, 6, True, way)), "rope")


class Way(unittest.TestCase):
    def test_each_way_with_each_kind_without_runs(self):
        goes = {
            "bowled": ("bat",), "caught": ("bat",), "before": ("bat",),
            "stumped": ("bat", "wide"), "hit": ("bat", "wide"), "run": KINDS,
        }
        for kind, way in itertools.product(KINDS, WAYS):
            with self.subTest(kind=kind, way=way):
                wanted = None if kind in goes[way] else "way"
                self.assertEqual(ball_fault(ball(kind, 0, False, way)), wanted)

    def test_no_way_but_run_goes_with_runs(self):
        for kind, way, runs in itertools.product(KINDS, WAYS[:-1], range(1, 10)):
            with self.subTest(kind=kind, way=way, runs=runs):
                self.assertEqual(ball_fault(ball(kind, runs, False, way)), "way")

    def test_run_goes_with_any_runs(self):
        for kind, runs in itertools.product(KINDS, range(10)):
            with self.subTest(kind=kind, runs=runs):
                self.assertIsNone(ball_fault(ball(kind, runs, False, "run")))

    def test_no_way_goes_with_a_good_rope(self):
        for way in WAYS:
            for kind in KINDS:
                with self.subTest(kind=kind, way=way):
                    self.assertEqual(ball_fault(ball(kind, 4, True, way)), "way")
            for kind in ("bat", "no"):
                with self.subTest(kind=kind, way=way):
                    self.assertEqual(ball_fault(ball(kind, 6, True, way)), "way")

    def test_either_end_and_any_name(self):
        for name, end in itertools.product(("anna", "b", "abcdefgh"), ("strike", "other")):
            with self.subTest(name=name, end=end):
                self.assertIsNone(ball_fault(("ball", "bat", 1, False, "run", name, end)))
                self.assertEqual(ball_fault(("ball", "bat", 4, True, "run", name, end)), "way")

    def test_what_was_read(self):
        rows = "bat 4 rope\nbat 3 rope\nbat 0 out before\nno 0 out before\nwide 1 out stumped\nbye 6 rope out hit"
        faults = [ball_fault(entry) for entry in read_entries(rows)]
        self.assertEqual(faults, [None, "rope", None, "way", "way", "rope"])

    def test_asked_again(self):
        for entry in every_ball():
            self.assertEqual(ball_fault(entry), ball_fault(entry))


class Sums(unittest.TestCase):
    def sums(self, wanted, entry, rules=RULES):
        with self.subTest(entry=entry, rules=rules):
            told = ball_sums(rules, entry)
            self.assertIs(type(told), tuple)
            self.assertEqual(told, wanted)
            self.assertEqual([type(part) for part in told], [int] * 4 + [bool] * 4)

    def test_each_kind_without_runs(self):
        self.sums((0, 0, 0, 0, True, True, False, False), ball("bat", 0))
        self.sums((0, 0, 0, 0, True, True, False, False), ball("bye", 0))
        self.sums((0, 0, 0, 0, True, True, False, False), ball("leg", 0))
        self.sums((3, 0, 3, 3, False, False, False, False), ball("wide", 0))
        self.sums((5, 0, 5, 5, False, True, False, False), ball("no", 0))
        self.sums((5, 0, 5, 5, False, True, False, False), ball("nobye", 0))

    def test_each_kind_with_odd_runs(self):
        self.sums((1, 1, 0, 1, True, True, True, False), ball("bat", 1))
        self.sums((3, 0, 3, 0, True, True, True, False), ball("bye", 3))
        self.sums((5, 0, 5, 0, True, True, True, False), ball("leg", 5))
        self.sums((4, 0, 4, 4, False, False, True, False), ball("wide", 1))
        self.sums((8, 3, 5, 8, False, True, True, False), ball("no", 3))
        self.sums((6, 0, 6, 5, False, True, True, False), ball("nobye", 1))

    def test_each_kind_with_even_runs(self):
        self.sums((2, 2, 0, 2, True, True, False, False), ball("bat", 2))
        self.sums((2, 0, 2, 0, True, True, False, False), ball("bye", 2))
        self.sums((2, 0, 2, 0, True, True, False, False), ball("leg", 2))
        self.sums((5, 0, 5, 5, False, False, False, False), ball("wide", 2))
        self.sums((7, 2, 5, 7, False, True, False, False), ball("no", 2))
        self.sums((7, 0, 7, 5, False, True, False, False), ball("nobye", 2))

    def test_each_kind_with_rope(self):
        self.sums((4, 4, 0, 4, True, True, False, False), ball("bat", 4, True))
        self.sums((6, 6, 0, 6, True, True, False, False), ball("bat", 6, True))
        self.sums((4, 0, 4, 0, True, True, False, False), ball("bye", 4, True))
        self.sums((4, 0, 4, 0, True, True, False, False), ball("leg", 4, True))
        self.sums((7, 0, 7, 7, False, False, False, False), ball("wide", 4, True))
        self.sums((9, 4, 5, 9, False, True, False, False), ball("no", 4, True))
        self.sums((11, 6, 5, 11, False, True, False, False), ball("no", 6, True))
        self.sums((9, 0, 9, 5, False, True, False, False), ball("nobye", 4, True))

    def test_each_way(self):
        for way in ("bowled", "caught", "before", "stumped", "hit"):
            self.sums((0, 0, 0, 0, True, True, False, True), ball("bat", 0, False, way))
        for way in ("stumped", "hit"):
            self.sums((3, 0, 3, 3, False, False, False, True), ball("wide", 0, False, way))
        self.sums((0, 0, 0, 0, True, True, False, False), ball("bat", 0, False, "run"))
        self.sums((1, 1, 0, 1, True, True, True, False), ball("bat", 1, False, "run"))
        self.sums((4, 0, 4, 4, False, False, True, False), ball("wide", 1, False, "run"))
        self.sums((7, 2, 5, 7, False, True, False, False), ball("no", 2, False, "run"))
        self.sums((8, 0, 8, 5, False, True, True, False), ball("nobye", 3, False, "run"))

    def test_balls_that_cannot_be(self):
        self.sums((3, 3, 0, 3, True, True, False, False), ball("bat", 3, True))
        self.sums((1, 0, 1, 0, True, True, False, False), ball("bye", 1, True))
        self.sums((9, 0, 9, 9, False, False, False, False), ball("wide", 6, True))
        self.sums((5, 0, 5, 5, False, True, False, True), ball("no", 0, False, "bowled"))
        self.sums((8, 0, 8, 5, False, True, True, True), ball("nobye", 3, False, "caught"))
        self.sums((1, 1, 0, 1, True, True, True, True), ball("bat", 1, False, "caught"))
        self.sums((7, 0, 7, 0, True, True, False, True), ball("leg", 7, True, "hit"))
        self.sums((4, 4, 0, 4, True, True, False, False), ball("bat", 4, True, "run"))

    def test_every_ball_by_the_table(self):
        for entry in every_ball():
            kind, runs, rope, way = entry[1:5]
            runs_told = {
                "bat": (runs, runs, 0, runs),
                "bye": (runs, 0, runs, 0),
                "leg": (runs, 0, runs, 0),
                "wide": (3 + runs, 0, 3 + runs, 3 + runs),
                "no": (5 + runs, runs, 5, 5 + runs),
                "nobye": (5 + runs, 0, 5 + runs, 5),
            }[kind]
            fair = kind in ("bat", "bye", "leg")
            crossed = runs in (1, 3, 5, 7, 9) and rope is False
            credited = way in ("bowled", "caught", "before", "stumped", "hit")
            self.sums(runs_told + (fair, kind != "wide", crossed, credited), entry)

    def test_team_is_always_bat_and_extra(self):
        for wide, noball in ((0, 0), (0, 9), (9, 0), (1, 1), (2, 7)):
            rules = RULES[:3] + (wide, noball) + RULES[5:]
            for entry in every_ball():
                told = ball_sums(rules, entry)
                self.assertEqual(told[0], told[1] + told[2], (rules, entry))

    def test_wide_and_noball_go_by_the_rules(self):
        for number in range(10):
            wide = read_rules(f"wide {number}\nnoball 4")
            noball = read_rules(f"wide 4\nnoball {number}")
            self.sums((number + 1, 0, number + 1, number + 1, False, False, True, False), ball("wide", 1), wide)
            self.sums((5, 0, 5, 5, False, False, True, False), ball("wide", 1), noball)
            self.sums((number + 1, 1, number, number + 1, False, True, True, False), ball("no", 1), noball)
            self.sums((5, 1, 4, 5, False, True, True, False), ball("no", 1), wide)
            self.sums((number + 1, 0, number + 1, number, False, True, True, False), ball("nobye", 1), noball)
            self.sums((5, 0, 5, 4, False, True, True, False), ball("nobye", 1), wide)

    def test_other_rules_change_nothing(self):
        other = (12, 99, 99, 3, 5, 2, 1, 0)
        for entry in every_ball():
            self.assertEqual(ball_sums(other, entry), ball_sums(RULES, entry))

    def test_neither_rules_matter_for_bat_bye_and_leg(self):
        for kind, runs in itertools.product(("bat", "bye", "leg"), range(10)):
            self.assertEqual(ball_sums(RULES, ball(kind, runs)), ball_sums(read_rules(""), ball(kind, runs)))

    def test_either_end_and_any_name(self):
        for name, end in itertools.product(("anna", "zed"), ("strike", "other")):
            self.sums((1, 1, 0, 1, True, True, True, False), ("ball", "bat", 1, False, "run", name, end))

    def test_asked_again(self):
        for entry in every_ball():
            self.assertEqual(ball_sums(RULES, entry), ball_sums(RULES, entry))


if __name__ == "__main__":
    unittest.main()
