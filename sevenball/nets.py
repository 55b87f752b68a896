"""Nets of lots: of words that tell one, and of the rows of other nets."""

from sevenball.checks import LETTERS, is_within
from sevenball.errors import BadLot, BadWord, TooMany
from sevenball.net_rows import core_of, folded, numbered, rings_of
from sevenball.strict_rows import BARRED
from sevenball.words import Word

MOST_WORDS = 20
MOST_LETTERS_TOLD = 20
MOST_PLACES_TOLD = 200


def net_of(words):
    """The rows of the net of the lot told by words."""
    if not isinstance(words, (list, tuple)) or not all([isinstance(word, Word) for word in words]):
        raise BadWord(0)
    if len(words) > MOST_WORDS:
        raise TooMany("words", MOST_WORDS)
    if any([len(word) > MOST_LETTERS_TOLD for word in words]):
        raise TooMany("letters", MOST_LETTERS_TOLD)
    many, edges = rings_of([word.letters for word in words])
    return folded(many, edges)


def net_in(rows):
    """The rows of the net of the lot of the words that lead from place 0 to place 0 by the told rows."""
    if not isinstance(rows, (list, tuple)) or not 1 <= len(rows) <= MOST_PLACES_TOLD:
        raise BadLot("rows")
    if not all([is_net_row(row, len(rows)) for row in rows]) or not lead_back(rows):
        raise BadLot("rows")
    if len(numbered(rows, 0)) < len(rows):
        raise BadLot("rows")
    return numbered(core_of(rows, 0), 0)


def is_net_row(value, many):
    """Whether any value is a row of eight places, of so many, or None in their place."""
    if not isinstance(value, (list, tuple)) or len(value) != len(LETTERS):
        return False
    return all([to is None or is_within(to, 0, many - 1) for to in value])


def lead_back(rows):
    """Whether by the rows the undoing of each letter leads back."""
    return all([
        to is None or rows[to][BARRED[letter]] == at for at, row in enumerate(rows) for letter, to in enumerate(row)
    ])
