"""Tables for rain and aims, as [19] and [20] tell, over rows as [3] tells and answers as [2] tells."""

import copy
import itertools
import unittest

from inningsbook.errors import BadRow, BookError, Falling
from inningsbook.rain import aim, read_table, share_had, shown_table

TEXT = "left 0 0 0\nleft 100 80 30\nleft 180 130 40\nleft 250 130 40\nleft 1000 600 40"
TABLE = [[0, 0, 0], [100, 80, 30], [180, 130, 40], [250, 130, 40], [1000, 600, 40]]


class Refusing(unittest.TestCase):
    def refused(self, refusal, place, *rows):
        text = "\n".join(rows)
        with self.subTest(text=text):
            with self.assertRaises(BookError) as caught:
                read_table(text)
            self.assertIs(type(caught.exception), refusal)
            self.assertEqual(caught.exception.place, place)
            self.assertIs(type(caught.exception.place), int)


class Reading(Refusing):
    def test_a_table(self):
        self.assertEqual(read_table(TEXT), TABLE)

    def test_one_row(self):
        self.assertEqual(read_table("left 0"), [[0]])
        self.assertEqual(read_table("left 0 0 0"), [[0, 0, 0]])

    def test_one_to_eleven_numbers(self):
        for count in range(1, 12):
            with self.subTest(count=count):
                text = "left" + " 0" * count + "\nleft" + " 7" * count
                self.assertEqual(read_table(text), [[0] * count, [7] * count])

    def test_from_nothing_to_the_whole(self):
        self.assertEqual(read_table("left 0 0\nleft 1000 0\nleft 1000 1000"), [[0, 0], [1000, 0], [1000, 1000]])

    def test_alike_rows_and_numbers(self):
        self.assertEqual(read_table("left 0 0\nleft 0 0\nleft 5 5\nleft 5 5"), [[0, 0], [0, 0], [5, 5], [5, 5]])

    def test_loose_blanks_and_empty_rows(self):
        text = "\n   left  0   0 \n\n \nleft 9    3   \n"
        self.assertEqual(read_table(text), [[0, 0], [9, 3]])

    def test_many_rows(self):
        rows = ["left 0"] + [f"left {min(number, 1000)}" for number in range(1, 2000)]
        table = read_table("\n".join(rows))
        self.assertEqual((len(table), table[1], table[999], table[1999]), (2000, [1], [999], [1000]))

    def test_kinds(self):
        table = read_table(TEXT)
        self.assertIs(type(table), list)
        for numbers in table:
            self.assertIs(type(numbers), list)
            self.assertEqual([type(number) for number in numbers], [int] * 3)

    def test_what_is_told_is_the_askers_own(self):
        table = read_table("left 0 0\nleft 0 0\nleft 0 0")
        self.assertEqual(len({id(numbers) for numbers in table}), 3)
        table[0][0] = 5
        table.pop()
        self.assertEqual(read_table("left 0 0\nleft 0 0\nleft 0 0"), [[0, 0]] * 3)


class BadRows(Refusing):
    def test_no_such_form(self):
        for row in ("left", "right 0", "0 0", "lefts 0", "Left 0", "left0", "left x", "left 0 x", "left 00", "left -1",
                    "left 0.5", "left 01", "left +1", "left 1,0", "left left", "0 left", "over 6", "x"):
            self.refused(BadRow, 1, row)
            self.refused(BadRow, 2, "left 0", row)

    def test_too_many_numbers(self):
        self.refused(BadRow, 1, "left" + " 0" * 12)
        self.refused(BadRow, 2, "left" + " 0" * 11, "left" + " 0" * 12)

    def test_above_the_whole(self):
        self.refused(BadRow, 2, "left 0", "left 1001")
        self.refused(BadRow, 2, "left 0 0", "left 1000 1001")
        self.refused(BadRow, 2, "left 0", "left 9999")
        self.refused(BadRow, 2, "left 0", "left 10000")
        self.assertEqual(read_table("left 0\nleft 1000"), [[0], [1000]])

    def test_another_count(self):
        self.refused(BadRow, 2, "left 0 0", "left 5")
        self.refused(BadRow, 2, "left 0 0", "left 5 4 3")
        self.refused(BadRow, 3, "left 0 0", "left 5 4", "left 6 5 4")
        self.refused(BadRow, 2, "left 0", "left")

    def test_the_first_row_that_is_to_be_refused(self):
        self.refused(BadRow, 2, "left 0", "x", "left 5 5", "y")
        self.refused(BadRow, 3, "", "left 0", " x ", "y")
        self.refused(Falling, 2, "left 0 0", "left 4 5", "x")
        self.refused(BadRow, 2, "left 0 0", "x", "left 4 5")

    def test_ahead_of_falling_in_one_row(self):
        self.refused(BadRow, 1, "left 1001")
        self.refused(BadRow, 1, "left 5 x")
        self.refused(BadRow, 3, "left 0 0", "left 9 9", "left 8 1001")
        self.refused(BadRow, 3, "left 0 0", "left 9 9", "left 8")
        self.refused(BadRow, 3, "left 0 0", "left 9 9", "left 8 9 10")
        self.refused(BadRow, 2, "left 0 0", "left 4 5 6")


class Fallings(Refusing):
    def test_the_first_row_has_a_number_above_nothing(self):
        self.refused(Falling, 1, "left 1")
        self.refused(Falling, 1, "left 0 0 1")
        self.refused(Falling, 1, "left 1000 0")
        self.refused(Falling, 3, "", " ", "left 1 0", "left 1 0")

    def test_less_than_the_one_above(self):
        self.refused(Falling, 3, "left 0", "left 5", "left 4")
        self.refused(Falling, 3, "left 0 0", "left 5 3", "left 4 3")
        self.refused(Falling, 3, "left 0 0 0", "left 5 3 2", "left 9 3 1")
        self.refused(Falling, 4, "left 0 0", "left 5 3", "left 6 4", "left 6 3")
        self.refused(Falling, 6, "left 0 0", "", "left 5 3", "", "", "left 4 3")

    def test_greater_than_the_one_ahead(self):
        self.refused(Falling, 2, "left 0 0", "left 4 5")
        self.refused(Falling, 2, "left 0 0 0", "left 5 3 4")
        self.refused(Falling, 2, "left 0 0 0", "left 0 0 1")

    def test_no_row(self):
        self.refused(Falling, 1, "")
        self.refused(Falling, 1, "   ")
        self.refused(Falling, 2, "", "")
        self.refused(Falling, 4, " ", "", "   ", "")


class Showing(Refusing):
    def test_as_it_was_read(self):
        self.assertEqual(shown_table(TABLE), TEXT)
        self.assertEqual(shown_table([[0]]), "left 0")

    def test_read_again(self):
        for table in (TABLE, [[0]], [[0] * 11, [1000] * 11], [[0, 0], [0, 0], [1, 0]]):
            self.assertEqual(read_table(shown_table(table)), table)

    def test_loose_blanks_are_gone(self):
        self.assertEqual(shown_table(read_table("\n  left   0  0 \n\nleft 10   9\n")), "left 0 0\nleft 10 9")

    def test_what_was_handed_in_stays(self):
        table = copy.deepcopy(TABLE)
        shown_table(table)
        self.assertEqual(table, TABLE)


class Shares(unittest.TestCase):
    def test_no_cut(self):
        self.assertEqual([share_had(TABLE, overs, []) for overs in range(5)], [0, 100, 180, 250, 1000])

    def test_one_cut(self):
        self.assertEqual(share_had(TABLE, 4, [(3, 1, 0)]), 1000 - (250 - 100))
        self.assertEqual(share_had(TABLE, 4, [(3, 1, 1)]), 1000 - (130 - 80))
        self.assertEqual(share_had(TABLE, 4, [(3, 2, 2)]), 1000)
        self.assertEqual(share_had(TABLE, 4, [(2, 0, 2)]), 1000 - 40)
        self.assertEqual(share_had(TABLE, 3, [(2, 2, 0)]), 250)

    def test_several_cuts(self):
        self.assertEqual(share_had(TABLE, 4, [(3, 2, 0), (2, 1, 1)]), 1000 - 70 - 50)
        self.assertEqual(share_had(TABLE, 4, [(3, 2, 0), (3, 2, 0), (1, 0, 2)]), 1000 - 70 - 70 - 30)

    def test_brought_to_nothing(self):
        self.assertEqual(share_had(TABLE, 4, [(4, 0, 0)]), 0)
        self.assertEqual(share_had(TABLE, 3, [(4, 0, 0)]), 0)
        self.assertEqual(share_had(TABLE, 2, [(2, 1, 0), (1, 0, 0)]), 0)
        self.assertEqual(share_had(TABLE, 2, [(2, 1, 0), (1, 0, 0), (2, 1, 1)]), 0)
        self.assertEqual(share_had(TABLE, 2, [(2, 1, 0), (1, 0, 1)]), 20)
        self.assertEqual(share_had(TABLE, 0, [(1, 0, 0)]), 0)

    def test_kinds_and_what_was_handed_in(self):
        table = copy.deepcopy(TABLE)
        cuts = [(3, 1, 0), (1, 0, 1)]
        self.assertIs(type(share_had(table, 4, cuts)), int)
        self.assertEqual((table, cuts), (TABLE, [(3, 1, 0), (1, 0, 1)]))
        self.assertEqual(share_had(table, 4, cuts), share_had(table, 4, cuts))


class Aims(unittest.TestCase):
    def test_has_less_than_had(self):
        self.assertEqual(aim(250, 1000, 600, 245), 151)
        self.assertEqual(aim(251, 1000, 600, 245), 151)
        self.assertEqual(aim(100, 300, 299, 245), 100)
        self.assertEqual(aim(7, 3, 2, 0), 5)
        self.assertEqual(aim(9999, 1000, 0, 245), 1)

    def test_has_equal_to_had(self):
        for first, had in itertools.product((0, 1, 99, 9999), (1, 2, 500, 1000)):
            self.assertEqual(aim(first, had, had, 245), first + 1)

    def test_has_above_had(self):
        self.assertEqual(aim(200, 600, 800, 245), 200 + 49 + 1)
        self.assertEqual(aim(200, 600, 601, 245), 201)
        self.assertEqual(aim(200, 600, 605, 245), 202)
        self.assertEqual(aim(200, 600, 604, 249), 201)
        self.assertEqual(aim(200, 600, 604, 250), 202)
        self.assertEqual(aim(0, 1, 1000, 9999), 9989 + 1)
        self.assertEqual(aim(200, 600, 900, 0), 201)

    def test_without_runs(self):
        self.assertEqual(aim(0, 500, 200, 245), 1)
        self.assertEqual(aim(0, 500, 500, 245), 1)

    def test_kinds(self):
        self.assertIs(type(aim(250, 1000, 600, 245)), int)
        self.assertIs(type(aim(250, 500, 600, 245)), int)


class Order(unittest.TestCase):
    def rises(self, numbers):
        self.assertEqual(numbers, sorted(numbers))

    def falls(self, numbers):
        self.assertEqual(numbers, sorted(numbers, reverse=True))

    def test_the_aim_never_falls_as_has_rises(self):
        for first, had, usual in itertools.product((0, 1, 250, 9999), (1, 7, 600, 999, 1000), (0, 245, 9999)):
            with self.subTest(first=first, had=had, usual=usual):
                self.rises([aim(first, had, has, usual) for has in range(1001)])

    def test_the_aim_by_the_table(self):
        for first, had, usual in itertools.product((0, 250), (1, 100, 600), (0, 245)):
            for wickets in range(3):
                self.rises([aim(first, had, TABLE[overs][wickets], usual) for overs in range(5)])
            for overs in range(5):
                self.falls([aim(first, had, TABLE[overs][wickets], usual) for wickets in range(3)])

    def test_the_share_by_overs_after_before_and_cuts(self):
        cuts = [(before, after, wickets) for before in range(5) for after in range(before + 1) for wickets in range(3)]
        for cut in cuts:
            self.rises([share_had(TABLE, overs, [cut]) for overs in range(5)])
        for overs, wickets in itertools.product(range(5), range(3)):
            for before in range(5):
                self.rises([share_had(TABLE, overs, [(before, after, wickets)]) for after in range(before + 1)])
            for after in range(5):
                self.falls([share_had(TABLE, overs, [(before, after, wickets)]) for before in range(after, 5)])
        for one, two in itertools.product(cuts, cuts):
            self.falls([share_had(TABLE, 4, given) for given in ([], [one], [one, two], [one, two, one])])


if __name__ == "__main__":
    unittest.main()
