"""Leagues, as [21] and [22] tell, over rows as [3] tells and answers as [2] tells."""

import copy
import itertools
import math
import unittest
from fractions import Fraction

from inningsbook.errors import BadRow, BookError, Misplaced, Unfinished
from inningsbook.league import rate_of, read_league, standing
from inningsbook.words import KEYWORDS

POINTS = "points 2 1 0"
BREAKER = "breaker rate name"
PLAYED = "played reds 150 120 blues 140 120"
BREAKERS = ("wins", "rate", "runs", "name")


class Refusing(unittest.TestCase):
    def refused(self, refusal, place, *rows):
        text = "\n".join(rows)
        with self.subTest(text=text):
            with self.assertRaises(BookError) as caught:
                read_league(text)
            self.assertIs(type(caught.exception), refusal)
            self.assertEqual(caught.exception.place, place)
            self.assertIs(type(caught.exception.place), int)

    def read(self, *rows):
        return read_league("\n".join(rows))


class Reading(Refusing):
    def test_a_league(self):
        told = self.read(POINTS, BREAKER, PLAYED, "played greens 0 1 reds 9999 9999")
        games = [("reds", 150, 120, "blues", 140, 120), ("greens", 0, 1, "reds", 9999, 9999)]
        self.assertEqual(told, ((2, 1, 0), ["rate", "name"], games))

    def test_no_game(self):
        self.assertEqual(self.read("points 0 0 0", "breaker wins"), ((0, 0, 0), ["wins"], []))

    def test_any_points(self):
        self.assertEqual(self.read("points 9999 0 10", BREAKER)[0], (9999, 0, 10))
        self.assertEqual(self.read("points 0 1 2", BREAKER)[0], (0, 1, 2))

    def test_any_breakers(self):
        for count in range(1, 5):
            for words in itertools.permutations(BREAKERS, count):
                self.assertEqual(self.read(POINTS, "breaker " + " ".join(words))[1], list(words))

    def test_the_same_game_again(self):
        self.assertEqual(self.read(POINTS, BREAKER, PLAYED, PLAYED)[2], [("reds", 150, 120, "blues", 140, 120)] * 2)

    def test_breakers_may_be_names(self):
        game = self.read(POINTS, BREAKER, "played wins 1 1 rate 2 2")[2]
        self.assertEqual(game, [("wins", 1, 1, "rate", 2, 2)])

    def test_loose_blanks_and_empty_rows(self):
        told = self.read("", "  points  2   1 0 ", "   ", "breaker   rate name  ", "", " " + PLAYED, "")
        self.assertEqual(told, self.read(POINTS, BREAKER, PLAYED))

    def test_kinds(self):
        told = self.read(POINTS, BREAKER, PLAYED)
        self.assertEqual([type(part) for part in told], [tuple, list, list])
        self.assertIs(type(told), tuple)
        self.assertEqual([type(part) for part in told[0]], [int] * 3)
        self.assertEqual([type(part) for part in told[1]], [str] * 2)
        self.assertEqual([type(part) for part in told[2][0]], [str, int, int] * 2)
        self.assertIs(type(told[2][0]), tuple)

    def test_what_is_told_is_the_askers_own(self):
        one = self.read(POINTS, BREAKER, PLAYED)
        one[1].clear()
        one[2].clear()
        again = self.read(POINTS, BREAKER, PLAYED)
        self.assertEqual(again[1:], (["rate", "name"], [("reds", 150, 120, "blues", 140, 120)]))


class BadRows(Refusing):
    def test_points(self):
        for row in ("points", "points 2", "points 2 1", "points 2 1 0 0", "points a 1 0", "points 2 x 0",
                    "points 2 1 x", "points 02 1 0", "points 2 1 10000", "points -1 0 0", "Points 2 1 0",
                    "point 2 1 0", "2 1 0"):
            self.refused(BadRow, 1, row)
            self.refused(BadRow, 1, row, BREAKER)

    def test_breaker(self):
        for row in ("breaker", "breaker x", "breaker wins x", "breaker wins wins", "breaker rate name rate",
                    "breaker wins rate runs name wins", "breaker wins rate runs name x", "breaker points",
                    "breaker Name", "breakers wins", "breaker 1", "wins"):
            self.refused(BadRow, 2, POINTS, row)

    def test_played(self):
        for row in ("played", "played reds", "played reds 1 1 blues 1", "played reds 1 1 blues 1 1 1",
                    "reds 1 1 blues 1 1", "played reds 1 1 reds 1 1", "played reds 1 0 blues 1 1",
                    "played reds 1 1 blues 1 0",
                    "played reds 1 00 blues 1 1", "played reds x 1 blues 1 1", "played reds 1 x blues 1 1",
                    "played reds 1 1 blues x 1", "played reds 1 1 blues 1 x", "played 1 1 1 blues 1 1",
                    "played reds 1 1 2 1 1", "played Reds 1 1 blues 1 1", "played reds 1 1 bluesblue 1 1",
                    "played reds 10000 1 blues 1 1", "played reds 1 1 blues 1 10000", "played reds -1 1 blues 1 1",
                    "plays reds 1 1 blues 1 1", "x"):
            self.refused(BadRow, 3, POINTS, BREAKER, row)

    def test_keywords_are_no_names(self):
        for word in KEYWORDS:
            self.refused(BadRow, 3, POINTS, BREAKER, f"played {word} 1 1 blues 1 1")
            self.refused(BadRow, 3, POINTS, BREAKER, f"played reds 1 1 {word} 1 1")

    def test_edges_of_the_numbers(self):
        games = self.read(POINTS, BREAKER, "played a 0 1 b 9999 9999", "played abcdefgh 9999 1 c 0 9999")[2]
        self.assertEqual(games, [("a", 0, 1, "b", 9999, 9999), ("abcdefgh", 9999, 1, "c", 0, 9999)])


class Places(Refusing):
    def test_points_go_first(self):
        self.refused(Misplaced, 1, BREAKER, POINTS)
        self.refused(Misplaced, 1, PLAYED, POINTS, BREAKER)
        self.refused(Misplaced, 1, BREAKER)
        self.refused(Misplaced, 1, PLAYED)

    def test_then_the_breaker(self):
        self.refused(Misplaced, 2, POINTS, PLAYED, BREAKER)
        self.refused(Misplaced, 2, POINTS, PLAYED)

    def test_a_second_time(self):
        self.refused(Misplaced, 2, POINTS, POINTS, BREAKER)
        self.refused(Misplaced, 2, POINTS, "points 3 1 0")
        self.refused(Misplaced, 3, POINTS, BREAKER, POINTS)
        self.refused(Misplaced, 3, POINTS, BREAKER, BREAKER)
        self.refused(Misplaced, 3, POINTS, BREAKER, "breaker wins")
        self.refused(Misplaced, 4, POINTS, BREAKER, PLAYED, POINTS)
        self.refused(Misplaced, 4, POINTS, BREAKER, PLAYED, BREAKER)

    def test_every_row_is_counted(self):
        self.refused(Misplaced, 4, "", " ", POINTS, PLAYED, BREAKER)
        self.refused(BadRow, 5, "", POINTS, "", BREAKER, "x")

    def test_a_bad_row_goes_first_of_one_row(self):
        self.refused(BadRow, 1, "breaker x", POINTS)
        self.refused(BadRow, 1, "played reds 1 1 reds 1 1", POINTS)
        self.refused(BadRow, 2, POINTS, "points 2 1")
        self.refused(BadRow, 2, POINTS, "played reds 1 0 blues 1 1")
        self.refused(BadRow, 3, POINTS, BREAKER, "breaker wins wins")
        self.refused(BadRow, 3, POINTS, BREAKER, "points")

    def test_the_first_row_that_is_to_be_refused(self):
        self.refused(Misplaced, 1, BREAKER, "x")
        self.refused(BadRow, 1, "x", BREAKER)
        self.refused(BadRow, 2, POINTS, "x", PLAYED)
        self.refused(Misplaced, 2, POINTS, PLAYED, "x")


class Unfinisheds(Refusing):
    def test_points_lack(self):
        self.refused(Unfinished, 1, "")
        self.refused(Unfinished, 1, "    ")
        self.refused(Unfinished, 3, "", " ", "")

    def test_breaker_lacks(self):
        self.refused(Unfinished, 1, POINTS)
        self.refused(Unfinished, 2, POINTS, "")
        self.refused(Unfinished, 4, "", POINTS, " ", "")


class Rates(unittest.TestCase):
    def rate(self, wanted, team, *games):
        with self.subTest(team=team, games=games):
            told = rate_of(list(games), team)
            self.assertEqual(told, wanted)
            self.assertEqual((type(told), type(told[0]), type(told[1])), (tuple, int, int))

    def test_one_game(self):
        game = ("reds", 150, 120, "blues", 140, 120)
        self.rate((1, 12), "reds", game)
        self.rate((-1, 12), "blues", game)

    def test_unlike_balls(self):
        game = ("reds", 100, 60, "blues", 90, 45)
        self.rate((-1, 3), "reds", game)
        self.rate((1, 3), "blues", game)

    def test_nothing(self):
        self.rate((0, 1), "reds", ("reds", 100, 60, "blues", 50, 30))
        self.rate((0, 1), "blues", ("reds", 0, 60, "blues", 0, 7))

    def test_a_whole_number(self):
        self.rate((2, 1), "reds", ("reds", 9, 3, "blues", 4, 4))
        self.rate((-2, 1), "blues", ("reds", 9, 3, "blues", 4, 4))

    def test_all_games_together(self):
        games = [("reds", 10, 6, "blues", 3, 6), ("greens", 7, 5, "reds", 1, 4), ("blues", 9, 9, "greens", 9, 1)]
        self.rate((11 * 11 - 10 * 10, 110), "reds", *games)
        self.rate((-67, 35), "blues", *games)
        self.rate((74, 39), "greens", *games)

    def test_it_is_no_sum_of_rates(self):
        games = [("reds", 10, 10, "blues", 0, 1), ("reds", 0, 1, "blues", 10, 10)]
        self.rate((0, 1), "reds", *games)
        self.rate((19, 11), "reds", ("reds", 20, 10, "blues", 0, 1), ("reds", 0, 1, "blues", 1, 10))

    def test_against_fractions(self):
        for r, n, s, m in itertools.product((0, 1, 7, 60, 9999), (1, 6, 9999), (0, 1, 8, 60, 9998), (1, 4, 9998)):
            games = [("a", r, n, "b", s, m), ("c", s, n, "a", r, m)]
            wanted = Fraction(2 * r, n + m) - Fraction(2 * s, m + n)
            told = rate_of(games, "a")
            self.assertEqual(told, (wanted.numerator, wanted.denominator))
            self.assertEqual(math.gcd(*told), 1)
            self.assertGreater(told[1], 0)

    def test_a_team_without_a_game(self):
        self.rate((0, 1), "greens", ("reds", 10, 6, "blues", 3, 6))
        self.rate((0, 1), "reds")

    def test_what_was_handed_in_stays(self):
        games = [("reds", 10, 6, "blues", 3, 6)]
        rate_of(games, "reds")
        self.assertEqual(games, [("reds", 10, 6, "blues", 3, 6)])


def game(one, runs, two, against, balls=10, off=10):
    return (one, runs, balls, two, against, off)


class Standings(unittest.TestCase):
    def order(self, wanted, breakers, games, points=(2, 1, 0)):
        with self.subTest(breakers=breakers, games=games):
            told = standing(points, list(breakers), list(games))
            self.assertEqual([row[0] for row in told], wanted.split())

    def test_every_part(self):
        games = [game("a", 5, "b", 3), game("b", 4, "c", 4), game("c", 1, "a", 2), game("b", 9, "a", 1)]
        self.assertEqual(standing((3, 1, 0), ["name"], games), [
            ("a", 6, 2, 0, 1, (-1, 6)),
            ("b", 4, 1, 1, 1, (1, 5)),
            ("c", 1, 0, 1, 1, (-1, 20)),
        ])

    def test_kinds(self):
        told = standing((3, 1, 0), ["name"], [game("a", 5, "b", 3)])
        self.assertIs(type(told), list)
        for row in told:
            self.assertIs(type(row), tuple)
            self.assertEqual([type(part) for part in row], [str] + [int] * 4 + [tuple])
            self.assertEqual([type(part) for part in row[5]], [int, int])

    def test_no_game(self):
        self.assertEqual(standing((2, 1, 0), ["rate"], []), [])

    def test_points_for_win_tie_and_loss(self):
        games = [game("a", 5, "b", 3), game("c", 4, "d", 4)]
        for points in ((2, 1, 0), (4, 2, 1), (0, 0, 0), (9, 0, 3)):
            told = {row[0]: row[1:5] for row in standing(points, ["name"], games)}
            self.assertEqual(told, {
                "a": (points[0], 1, 0, 0), "b": (points[2], 0, 0, 1),
                "c": (points[1], 0, 1, 0), "d": (points[1], 0, 1, 0),
            })

    def test_more_points_go_first(self):
        games = [game("a", 1, "b", 2), game("c", 1, "b", 9), game("a", 3, "c", 0)]
        self.order("b a c", ("name",), games)
        # Whoever loses leads, where the points say so.
        self.order("c a b", ("wins",), games, points=(0, 1, 2))

    def test_points_go_ahead_of_every_breaker(self):
        games = [game("z", 1, "a", 0), game("b", 90, "y", 89), game("a", 900, "y", 900)]
        for breakers in itertools.permutations(BREAKERS):
            told = [row[1] for row in standing((4, 1, 0), list(breakers), games)]
            self.assertEqual(told, sorted(told, reverse=True))

    def test_wins(self):
        games = [game("a", 4, "x", 4), game("a", 4, "x", 4), game("b", 1, "y", 0), game("b", 0, "y", 9)]
        self.order("b y a x", ("wins", "name"), games)
        self.order("a b x y", ("name",), games)

    def test_rate_as_a_fraction(self):
        # 1/3 and 333/1000 are unlike, 2/6 is 1/3.
        games = [game("a", 0, "x", 333, 1, 1000), game("b", 0, "y", 1, 1, 3), game("c", 0, "z", 2, 1, 6)]
        self.order("y z x a b c", ("rate",), games)
        self.order("z y x a c b", ("rate",), list(reversed(games)))

    def test_rates_that_are_very_near(self):
        games = [game("a", 0, "x", 4998, 9999, 9997), game("b", 0, "y", 4999, 9999, 9999),
                 game("c", 0, "z", 4999, 9999, 9998)]
        self.order("z y x a b c", ("rate",), games)
        rates = {row[0]: Fraction(*row[5]) for row in standing((2, 1, 0), ["rate"], games)}
        self.assertTrue(rates["z"] > rates["y"] > rates["x"] > rates["a"] > rates["b"] > rates["c"])

    def test_runs(self):
        games = [game("a", 5, "x", 3), game("b", 50, "y", 48), game("c", 6, "z", 4)]
        self.order("b c a y z x", ("runs",), games)

    def test_runs_are_those_of_all_games(self):
        games = [game("a", 5, "b", 5), game("c", 8, "d", 8), game("b", 9, "a", 9), game("c", 1, "d", 1)]
        self.order("a b c d", ("runs", "name"), games)

    def test_name(self):
        games = [game("d", 1, "b", 1), game("c", 1, "a", 1), game("ab", 1, "aa", 1)]
        self.order("a aa ab b c d", ("name",), games)

    def test_alike_in_all_in_the_order_of_the_games(self):
        games = [game("d", 1, "b", 1), game("c", 1, "a", 1), game("b", 1, "d", 1), game("a", 1, "c", 1)]
        self.order("d b c a", ("wins", "rate", "runs"), games)
        self.order("d b c a", ("rate",), games)
        self.order("d b c a", ("runs",), games)
        self.order("d b c a", ("wins",), games)

    def test_the_breakers_go_in_their_order(self):
        # With three points each: m has more wins, n more runs, o the greater rate.
        games = [game("m", 2, "s", 1), game("m", 0, "s", 1), game("n", 50, "t", 50), game("n", 40, "t", 40),
                 game("o", 9, "u", 9, 1, 9), game("o", 8, "u", 8, 1, 8), game("n", 9, "m", 9),
                 game("o", 3, "w", 3, 1, 1)]
        told = standing((2, 1, 0), ["name"], games)
        self.assertEqual([row[:2] for row in told][:3], [("m", 3), ("n", 3), ("o", 3)])
        for breakers, wanted in ((("wins", "rate"), "m o n"), (("wins", "runs"), "m n o"), (("rate", "wins"), "o m n"),
                                 (("runs", "rate"), "n o m"), (("name",), "m n o"), (("rate", "name"), "o m n")):
            names = [row[0] for row in standing((2, 1, 0), list(breakers), games) if row[0] in ("m", "n", "o")]
            self.assertEqual(names, wanted.split(), breakers)

    def test_against_a_plain_order(self):
        names = ("e", "b", "d", "a", "c")
        games = []
        number = 7
        for one, two in itertools.combinations(names, 2):
            number = (number * 37 + 11) % 101
            games.append(game(one, number % 3, two, number % 2, 1 + number % 2, 1 + number % 3))
        for count in range(1, 5):
            for breakers in itertools.permutations(BREAKERS, count):
                for points in ((2, 1, 0), (0, 0, 0), (1, 1, 1)):
                    told = standing(points, list(breakers), games)
                    self.assertEqual([row[0] for row in told], self.plain_order(points, breakers, games, names))

    def plain_order(self, points, breakers, games, names):
        """The order by a fraction of Python's own."""
        def key(name):
            won = tied = lost = runs = balls = against = off = 0
            for a, r, n, b, s, m in games + [(b, s, m, a, r, n) for a, r, n, b, s, m in games]:
                if a == name:
                    won, tied, lost = won + (r > s), tied + (r == s), lost + (r < s)
                    runs, balls, against, off = runs + r, balls + n, against + s, off + m
            rate = Fraction(runs, balls) - Fraction(against, off)
            marks = {"wins": -won, "rate": -rate, "runs": -runs, "name": name}
            got = points[0] * won + points[1] * tied + points[2] * lost
            return [-got] + [marks[word] for word in breakers]
        return sorted(names, key=key)

    def test_rates_are_those_of_rate_of(self):
        games = [game("a", 5, "b", 3, 7, 9), game("b", 4, "c", 4, 2, 3), game("c", 1, "a", 2)]
        for row in standing((3, 1, 0), ["runs"], games):
            self.assertEqual(row[5], rate_of(games, row[0]))

    def test_many_teams(self):
        letters = "abcdefghijklmnopqrstuvwxyz"
        names = ["".join(name) for name in itertools.product(letters, letters, letters[:3])][:2000]
        games = [game(one, index % 97, two, index % 89, 1 + index % 991, 1 + index % 997)
                 for index, (one, two) in enumerate(zip(names[::2], names[1::2]))]
        told = standing((2, 1, 0), ["rate", "name"], games)
        self.assertEqual(len(told), 2000)
        keys = [(-row[1], -Fraction(*row[5]), row[0]) for row in told]
        self.assertEqual(keys, sorted(keys))

    def test_what_was_handed_in_stays(self):
        points, breakers, games = read_league("\n".join((POINTS, BREAKER, PLAYED)))
        before = copy.deepcopy((points, breakers, games))
        one = standing(points, breakers, games)
        self.assertEqual((points, breakers, games), before)
        two = standing(points, breakers, games)
        self.assertIsNot(one, two)
        one.clear()
        self.assertEqual(standing(points, breakers, games), two)


if __name__ == "__main__":
    unittest.main()
