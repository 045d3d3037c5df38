"""What holds over the whole program: [1], [2] and [3], and the interface."""

import ast
import importlib
import inspect
import pathlib
import unittest

from inningsbook.asking import booked, righted, sheet
from inningsbook.book import Book
from inningsbook.league import read_league, standing
from inningsbook.match import Match
from inningsbook.rain import read_table, shown_table
from telling import REDS, BLUES

FOLDER = pathlib.Path(importlib.import_module("inningsbook").__file__).parent

# Each module's names with what they are handed in, by places.
INTERFACE = {
    "words": {"is_name": "word", "number_in": "word"},
    "rules": {"read_rules": "text", "shown_rules": "rules"},
    "teams": {"read_teams": "text side", "shown_teams": "teams"},
    "entries": {"read_entries": "text", "shown_entry": "entry"},
    "balls": {"ball_fault": "entry", "ball_sums": "rules entry"},
    "match": {"Match": "rules teams"},
    "sums": {"batters": "rules log", "bowlers": "rules log", "extras": "rules log", "pairs": "rules log",
             "stretch": "rules log first last"},
    "book": {"Book": "rules teams"},
    "rain": {"read_table": "text", "shown_table": "table", "share_had": "table overs cuts",
             "aim": "first had has usual"},
    "league": {"read_league": "text", "rate_of": "games team", "standing": "points breakers games"},
    "asking": {"booked": "rules_text teams_text entries_text", "sheet": "rules_text teams_text entries_text",
               "righted": "rules_text teams_text entries_text number row"},
    "errors": {"BadRow": "words place", "Misplaced": "words place", "Twice": "words place", "Unfinished": "words place",
               "Falling": "words place", "NotLet": "words rule number", "NoEntry": "words number"},
}
METHODS = {
    Match: {"tell": "entry", "state": "", "innings": "", "turn": "", "players": "", "result": "", "log": ""},
    Book: {"tell": "entry", "entries": "", "match": "", "put_right": "number entry", "put_in": "number entry",
           "take_out": "number"},
}


def texts():
    rows = ["team reds"] + [f"player {name}" for name in REDS] + ["team blues"] + [f"player {name}" for name in BLUES]
    return ("side 4\nover 12", "\n".join(rows))


class Interface(unittest.TestCase):
    def test_names_and_arguments(self):
        for module, names in INTERFACE.items():
            for name, arguments in names.items():
                with self.subTest(module=module, name=name):
                    told = getattr(importlib.import_module(f"inningsbook.{module}"), name)
                    self.assertEqual(" ".join(inspect.signature(told).parameters), arguments)

    def test_methods(self):
        for kind, names in METHODS.items():
            for name, arguments in names.items():
                with self.subTest(kind=kind, name=name):
                    told = list(inspect.signature(getattr(kind, name)).parameters)
                    self.assertEqual(" ".join(told[1:]), arguments)


class Plainness(unittest.TestCase):
    def test_nothing_is_drawn_from_outside(self):
        for path in sorted(FOLDER.glob("*.py")):
            for node in ast.walk(ast.parse(path.read_text())):
                with self.subTest(path=path.name):
                    self.assertNotIsInstance(node, ast.Import)
                    if isinstance(node, ast.ImportFrom):
                        self.assertTrue(node.module.startswith("inningsbook."), node.module)

    def test_no_file_clock_or_chance_by_name(self):
        for path in sorted(FOLDER.glob("*.py")):
            names = {node.id for node in ast.walk(ast.parse(path.read_text())) if isinstance(node, ast.Name)}
            with self.subTest(path=path.name):
                self.assertEqual(names & {"open", "input", "print", "eval", "exec", "compile", "globals"}, set())

    def test_files_lines_and_signs(self):
        for path in sorted(FOLDER.glob("*.py")):
            text = path.read_text()
            with self.subTest(path=path.name):
                self.assertTrue(set(text) <= {chr(sign) for sign in range(32, 127)} | {"\n"})
                self.assertLessEqual(max(len(row) for row in text.split("\n")), 120)
                self.assertLessEqual(text.count("\n"), 400)


class Size(unittest.TestCase):
    def test_the_most_rows_of_the_most_signs(self):
        rules, teams = texts()
        rows = ["start reds a b p"] + ["wide 1", "no 4 rope"] * 999 + ["bat 0"]
        entries = "\n".join(row.rjust(150).ljust(200) for row in rows)
        self.assertEqual(len(entries.split("\n")), 2000)
        told = sheet(rules, teams, entries).split("\n")
        self.assertEqual(told[0], f"innings reds {999 * 2 + 999 * 5} 0 0 1 going")
        self.assertEqual(told[-1], "result going")
        self.assertEqual(righted(rules, teams, entries, 1999, "wide 0").split("\n")[0],
                         f"innings reds {999 * 2 + 999 * 5 + 1} 0 0 0 going")
        self.assertEqual(righted(rules, teams, entries, 0, "start reds a b p").split("\n"), told)

    def test_a_book_of_many_entries_put_right(self):
        rules, teams = texts()
        book = booked(rules, teams, "\n".join(["start reds a b p"] + ["wide 1"] * 1999))
        self.assertIsNone(book.put_right(1000, ("ball", "wide", 2, False, "", "", "")))
        self.assertEqual(book.match().state()[4], 1998 * 2 + 3)
        self.assertEqual(book.put_in(5, ("close",)), (6, "done"))

    def test_a_long_table_and_a_long_league(self):
        rows = ["left" + " 0" * 11] + ["left" + f" {number // 2}" * 11 for number in range(1999)]
        table = read_table("\n".join(rows))
        self.assertEqual(len(table), 2000)
        self.assertEqual(shown_table(table), "\n".join(rows))
        games = [f"played reds {number} 9999 blues {1997 - number} 9998" for number in range(1998)]
        points, breakers, read = read_league("\n".join(["points 2 1 0", "breaker wins rate"] + games))
        told = standing(points, breakers, read)
        self.assertEqual([row[:5] for row in told], [("blues", 1998, 999, 0, 999), ("reds", 1998, 999, 0, 999)])


if __name__ == "__main__":
    unittest.main()
