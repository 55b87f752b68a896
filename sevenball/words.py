"""Words: letters in a row of which none stands beside its undoing."""

from sevenball.checks import LETTERS, is_integer, is_within
from sevenball.errors import BadNumber, BadText, BadWord, TooMany
from sevenball.letter_rows import (
    MOST_LETTERS,
    coat_size,
    first_fault,
    first_stranger,
    followers,
    joined,
    repeated,
    struck,
    undone,
)
from sevenball.text_items import items_of

MOST_LISTED = 6
MOST_NUMBER = 10 ** 60


class Word:
    """A word, told by a string of its letters."""

    def __init__(self, letters=""):
        if not isinstance(letters, str):
            raise BadWord(0)
        at = first_fault(letters)
        if at is not None:
            raise BadWord(at)
        if len(letters) > MOST_LETTERS:
            raise TooMany("letters", MOST_LETTERS)
        self.letters = letters

    @staticmethod
    def of(letters):
        """The word that is left of any string of letters when it is struck out."""
        if not isinstance(letters, str):
            raise BadWord(0)
        at = first_stranger(letters)
        if at is not None:
            raise BadWord(at)
        return Word(struck(letters))

    @staticmethod
    def read(text):
        """The word with this text."""
        items = items_of(text)
        word = word_in(items[0])
        if word is None:
            raise BadText(0)
        if len(items) > 1:
            raise BadText(1)
        return word

    def __str__(self):
        if self.letters == "":
            return "-"
        return str(self.letters)

    def __mul__(self, other):
        if not isinstance(other, Word):
            raise BadWord(0)
        return Word(joined(self.letters, other.letters))

    def __invert__(self):
        return Word(undone(self.letters))

    def power(self, many):
        """The product of so many of these words, for a negative integer of so many undoings."""
        if not is_integer(many):
            raise BadNumber("many")
        letters = self.letters if many >= 0 else undone(self.letters)
        return Word(repeated(letters, abs(many), MOST_LETTERS))

    def __len__(self):
        return len(self.letters)

    def __iter__(self):
        return iter(self.letters)

    def __getitem__(self, at):
        if is_within(at, 0, len(self.letters) - 1):
            return self.letters[at]
        if at.__class__.__name__ == "slice":
            return Word(self.letters[at])
        raise BadNumber("at")

    # Shorter words come first; in ASCII the letters stand in their own order.
    def __eq__(self, other):
        if not isinstance(other, Word):
            return False
        return (len(self.letters), self.letters) == (len(other.letters), other.letters)

    def __lt__(self, other):
        if not isinstance(other, Word):
            return NotImplemented
        return (len(self.letters), self.letters) < (len(other.letters), other.letters)

    def __le__(self, other):
        if not isinstance(other, Word):
            return NotImplemented
        return (len(self.letters), self.letters) <= (len(other.letters), other.letters)

    def __gt__(self, other):
        if not isinstance(other, Word):
            return NotImplemented
        return (len(self.letters), self.letters) > (len(other.letters), other.letters)

    def __ge__(self, other):
        if not isinstance(other, Word):
            return NotImplemented
        return (len(self.letters), self.letters) >= (len(other.letters), other.letters)

    def begins(self, other):
        """Whether other is a beginning of the word."""
        if not isinstance(other, Word):
            raise BadWord(0)
        return self.letters.startswith(other.letters)

    def ends(self, other):
        """Whether other is a tail of the word."""
        if not isinstance(other, Word):
            raise BadWord(0)
        return self.letters.endswith(other.letters)

    def fits(self, other):
        """Whether nothing is struck out in the product of the word and other."""
        if not isinstance(other, Word):
            raise BadWord(0)
        return self.letters == "" or self.letters[-1].swapcase() != other.letters[:1]

    def meet(self, other):
        """The longest word that is a beginning of both."""
        if not isinstance(other, Word):
            raise BadWord(0)
        size = 0
        for mine, its in zip(self.letters, other.letters):
            if mine != its:
                break
            size += 1
        return Word(self.letters[:size])

    def root(self):
        """The pair of the root and the number of factors; of the empty word the empty one and 0."""
        if self.letters == "":
            return Word(), 0
        size = coat_size(self.letters)
        core = self.letters[size:len(self.letters) - size]
        # A row is found in itself written twice just where it stands after whole factors.
        step = (core + core).find(core, 1)
        root = self.letters[:size] + core[:step] + undone(self.letters[:size])
        return Word(root), len(core) // step

    def core(self):
        """The pair of the coat and the core."""
        size = coat_size(self.letters)
        return Word(self.letters[:size]), Word(self.letters[size:len(self.letters) - size])


def word_in(item):
    """The word that an item of a text writes, None if it writes none."""
    if item == "-":
        return Word()
    if item == "" or len(item) > MOST_LETTERS or first_fault(item) is not None:
        return None
    return Word(item)


def commute(one, other):
    """Whether two words commute."""
    if not isinstance(one, Word) or not isinstance(other, Word):
        raise BadWord(0)
    return joined(one.letters, other.letters) == joined(other.letters, one.letters)


def words_of(many):
    """All words with so many letters, ascending."""
    if not is_within(many, 0, MOST_LISTED):
        raise BadNumber("many")
    rows = [""]
    for _ in range(many):
        rows = [row + letter for row in rows for letter in followers(row)]
    for row in rows:
        yield Word(row)


def number_of(word):
    """How many words are less than a word."""
    if not isinstance(word, Word):
        raise BadWord(0)
    shorter = 0
    layer = 1
    place = 0
    before = ""
    for letter in word.letters:
        choices = followers(before)
        shorter = shorter + layer
        layer = layer * len(choices)
        place = place * len(choices) + choices.index(letter)
        before = letter
    return shorter + place


def word_at(number):
    """The word that has so many lesser ones."""
    if not is_within(number, 0, MOST_NUMBER):
        raise BadNumber("number")
    if number == 0:
        return Word()
    place = number - 1
    layer = 8
    size = 1
    while place >= layer:
        place = place - layer
        layer = layer * 7
        size += 1
    rests = []
    for _ in range(size - 1):
        rests.append(place % 7)
        place = place // 7
    letters = LETTERS[place]
    for rest in rests[::-1]:
        letters = letters + followers(letters)[rest]
    return Word(letters)
