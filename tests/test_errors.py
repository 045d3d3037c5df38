"""The seven refusals, as [2] and the interface tell."""

import unittest

from inningsbook import errors
from inningsbook.errors import BadRow, BookError, Falling, Misplaced, NoEntry, NotLet, Twice, Unfinished

PLACED = [BadRow, Misplaced, Twice, Unfinished, Falling]
REFUSALS = PLACED + [NotLet, NoEntry]


def made(refusal):
    if refusal is NotLet:
        return NotLet("words", "done", 4)
    return refusal("words", 4)


class Classes(unittest.TestCase):
    def test_base_is_straight_under_value_error(self):
        self.assertEqual(BookError.__bases__, (ValueError,))

    def test_each_refusal_is_straight_under_the_base(self):
        for refusal in REFUSALS:
            with self.subTest(refusal=refusal.__name__):
                self.assertEqual(refusal.__bases__, (BookError,))

    def test_there_are_seven_refusals(self):
        found = [
            value for value in vars(errors).values()
            if isinstance(value, type) and issubclass(value, BookError) and value is not BookError
        ]
        self.assertEqual(sorted(c.__name__ for c in found), sorted(c.__name__ for c in REFUSALS))
        self.assertEqual(len(set(found)), 7)

    def test_each_is_taken_by_its_own_class_the_base_and_value_error(self):
        for refusal in REFUSALS:
            for taker in (refusal, BookError, ValueError):
                with self.subTest(refusal=refusal.__name__, taker=taker.__name__):
                    with self.assertRaises(taker):
                        raise made(refusal)

    def test_none_is_taken_by_another_refusal(self):
        for refusal in REFUSALS:
            for other in REFUSALS:
                if other is refusal:
                    continue
                with self.subTest(refusal=refusal.__name__, other=other.__name__):
                    self.assertNotIsInstance(made(refusal), other)


class Fields(unittest.TestCase):
    def test_refusals_of_rows_have_their_place(self):
        for refusal in PLACED:
            for place in (1, 7, 2000):
                with self.subTest(refusal=refusal.__name__, place=place):
                    self.assertEqual(refusal("words", place).place, place)

    def test_not_let_without_a_number(self):
        error = NotLet("words", "turn")
        self.assertEqual((error.rule, error.number), ("turn", 0))
        self.assertIs(type(error.number), int)

    def test_not_let_with_a_number(self):
        error = NotLet("words", "turn", 12)
        self.assertEqual((error.rule, error.number), ("turn", 12))

    def test_no_entry_has_its_number(self):
        for number in (0, 5, -1):
            with self.subTest(number=number):
                self.assertEqual(NoEntry("words", number).number, number)

    def test_each_error_keeps_fields_of_its_own(self):
        for refusal in PLACED:
            with self.subTest(refusal=refusal.__name__):
                first = refusal("one", 1)
                second = refusal("two", 2)
                self.assertEqual((first.place, second.place), (1, 2))
        first = NotLet("one", "done", 1)
        second = NotLet("two", "turn")
        self.assertEqual((first.rule, first.number, second.rule, second.number), ("done", 1, "turn", 0))

    def test_fields_are_there_where_the_error_is_taken(self):
        try:
            raise NotLet("words", "spell", 3)
        except BookError as error:
            self.assertEqual((error.rule, error.number), ("spell", 3))


if __name__ == "__main__":
    unittest.main()
