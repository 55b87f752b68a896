"""Balls of cones: words apart, tops, and the cut of a cone to as many balls as there are tops."""

from sevenball.checks import LETTERS, is_within, undoing
from sevenball.cone_rows import cone_rows
from sevenball.errors import BadNumber, BadPiece, BadWord, TooMany
from sevenball.letter_rows import joined, none_begins_another, undone
from sevenball.painted import painted_of
from sevenball.pieces import Cut
from sevenball.words import Word

MOST_APART = 30
MOST_TOPS = 12
MOST_BELOW = 24
MOST_TOP = 40


def twin(word):
    """The word with the undoing of its last letter in the place of this one."""
    if not isinstance(word, Word) or not has_twin(word):
        raise BadWord(0)
    return Word(twin_letters(word.letters))


def has_twin(word):
    """Whether a word has a twin."""
    return len(word) > 0 and word.letters[-1:] != word.letters[-2:-1]


def twin_letters(letters):
    """Letters with the undoing of the last one in its place."""
    return letters[:-1] + undoing(letters[-1])


def are_apart(words):
    """Whether none of the words is a beginning of another one that stands at another place."""
    if not isinstance(words, (list, tuple)) or len(words) > MOST_APART:
        raise BadWord(0)
    if not all([isinstance(word, Word) for word in words]):
        raise BadWord(0)
    return none_begins_another([word.letters for word in words])


def tops_of(word, count):
    """So many tops of a word."""
    if not isinstance(word, Word):
        raise BadWord(0)
    if not is_within(count, 1, MOST_TOPS):
        raise BadNumber("count")
    if len(word) > MOST_BELOW:
        raise TooMany("letters", MOST_BELOW)
    one, other = [letter for letter in LETTERS[:3] if letter not in word.letters[-1:].upper()][:2]
    return tuple([Word(word.letters + one * at + other) for at in range(count)])


def cone_cut(word, tops):
    """A cut of the cone of a word to as many balls as there are tops of it."""
    if not isinstance(word, Word):
        raise BadWord(0)
    if not isinstance(tops, (list, tuple)) or not 1 <= len(tops) <= MOST_TOPS:
        raise BadWord(0)
    if not all([isinstance(top, Word) for top in tops]):
        raise BadWord(0)
    if any([len(top) > MOST_TOP for top in tops]):
        raise TooMany("letters", MOST_TOP)
    if not are_tops(word, tops):
        raise BadPiece("tops")
    ends = []
    turns = []
    for ball, top in enumerate(tops):
        ahead = top.letters[:-1]
        ends.extend([top.letters, twin_letters(top.letters)])
        turns.extend([(Word(), ball), (Word(joined(top.letters, undone(ahead))), ball)])
    return Cut(painted_of(cone_rows(word.letters, ends)), tuple(turns))


def are_tops(word, tops):
    """Whether the words, not too many, are tops of a word."""
    if not all([has_twin(top) for top in tops]):
        return False
    every = [top.letters for top in tops]
    every.extend([twin_letters(top.letters) for top in tops])
    return none_begins_another(every) and all([letters.startswith(word.letters) for letters in every])
