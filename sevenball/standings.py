"""Rows of standings: pairs of a mark and eight numbers of standings, one for each letter.

The mark of a machine's standing is whether it is lit, that of a painted one its colour.
"""

from sevenball.checks import LETTERS, is_within
from sevenball.errors import BadMachine, BadText, TooMany
from sevenball.text_items import integer_in

MOST_STANDINGS = 4000
MOST_PLACES = 4
# A standing in a text: its mark, eight numbers, and what parts it from the next one.
ITEMS_OF_ONE = 10


def copied_rows(rows):
    """A tuple of the rows that any value tells; whether their marks are right is not asked."""
    if not isinstance(rows, (list, tuple)):
        raise BadMachine("rows")
    if len(rows) > MOST_STANDINGS:
        raise TooMany("standings", MOST_STANDINGS)
    if len(rows) == 0 or not all([is_row(row, len(rows)) for row in rows]):
        raise BadMachine("rows")
    return tuple([(row[0], tuple(row[1])) for row in rows])


def is_row(value, many):
    """Whether any value is a pair of a mark and eight numbers of so many standings."""
    if not isinstance(value, (list, tuple)) or len(value) != 2:
        return False
    nexts = value[1]
    if not isinstance(nexts, (list, tuple)) or len(nexts) != len(LETTERS):
        return False
    return all([is_within(to, 0, many - 1) for to in nexts])


def led_to(rows, letters):
    """The number of the standing that letters lead to."""
    return led_behind(rows, 0, letters)


def led_behind(rows, standing, letters):
    """The number of the standing that letters lead to from one."""
    for letter in letters:
        standing = rows[standing][1][LETTERS.find(letter)]
    return standing


def one_way(letter, to, other):
    """The numbers of a standing from which a letter leads to one standing, each other letter to another one."""
    return tuple([to if one == letter else other for one in LETTERS])


def shifted(rows, by):
    """The rows as they are told where so many others stand ahead of them."""
    return tuple([(mark, tuple([to + by for to in nexts])) for mark, nexts in rows])


def row_text(mark, nexts):
    """The text of one standing."""
    return " ".join([mark] + [str(to) for to in nexts])


def rows_in(items, first, marks):
    """The rows that the items from the index first on write; marks tells the marks that texts stand for."""
    rows = [row_in(items, at, marks) for at in range(first, len(items), ITEMS_OF_ONE)]
    if (len(items) - first) % ITEMS_OF_ONE != ITEMS_OF_ONE - 1:
        raise BadText(len(items))
    if len(rows) > MOST_STANDINGS:
        raise TooMany("standings", MOST_STANDINGS)
    if any([to >= len(rows) for row in rows for to in row[1]]):
        raise BadText(len(items) - 1)
    return tuple(rows)


def row_in(items, first, marks):
    """The standing that the items from the index first on write, behind which a stroke or nothing stands."""
    numbers = []
    if items[first] not in marks:
        raise BadText(first)
    for at in range(first + 1, first + 1 + len(LETTERS)):
        number = integer_in(items[at], MOST_PLACES) if at < len(items) else None
        if number is None or number < 0:
            raise BadText(at)
        numbers.append(number)
    end = first + 1 + len(LETTERS)
    if end < len(items) and items[end] != "/":
        raise BadText(end)
    return marks[items[first]], tuple(numbers)
