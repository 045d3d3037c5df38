"""Rain: a table of the shares that are left, and the aims that come of it.

A table is a list of rows, one for each number of overs left; a row has a share for each number of wickets lost.
"""

from inningsbook.errors import BadRow, Falling
from inningsbook.words import number_in, numbered_rows, row_count

# The whole share; also the most that a row may tell.
WHOLE = 1000
MOST_NUMBERS = 11


def numbers_left(words):
    """The list of the numbers of a row of a table, or None where the row is none."""
    numbers = [number_in(word) for word in words[1:]]
    if words[0] != "left" or not 1 <= len(numbers) <= MOST_NUMBERS:
        return None
    if any([number is None or number > WHOLE for number in numbers]):
        return None
    return numbers


def is_falling(table, numbers):
    """Whether a row breaks the order behind the rows of the table so far."""
    if len(table) == 0:
        return any([number > 0 for number in numbers])
    if any([number < above for number, above in zip(numbers, table[-1])]):
        return True
    return any([later > earlier for earlier, later in zip(numbers, numbers[1:])])


def read_table(text):
    """The table that a text tells."""
    table = []
    for place, words in numbered_rows(text):
        numbers = numbers_left(words)
        if numbers is None or (len(table) > 0 and len(numbers) != len(table[0])):
            raise BadRow(f"row {place} is no row of this table", place)
        if is_falling(table, numbers):
            raise Falling(f"row {place} breaks the order of its numbers", place)
        table.append(numbers)
    if len(table) == 0:
        raise Falling("the table has no row", row_count(text))
    return table


def shown_row(numbers):
    """The text of one row of a table."""
    return " ".join(["left"] + [str(number) for number in numbers])


def shown_table(table):
    """The text of a table."""
    return "\n".join([shown_row(numbers) for numbers in table])


def share_had(table, overs, cuts):
    """The share that a side has for its overs, less what each cut (before, after, wickets) takes from it."""
    lost = sum([table[before][wickets] - table[after][wickets] for before, after, wickets in cuts])
    return max(table[overs][0] - lost, 0)


def aim(first, had, has, usual):
    """The aim of the second side, which has a share of `has` where the first one had `had` for its runs."""
    if has <= had:
        return first * has // had + 1
    return first + usual * (has - had) // WHOLE + 1
