"""Letters in a row, as plain strings of any length.

Words have a greatest length. What only passes through longer rows, on the way to
a word that is short enough, is worked out here.
"""

from sevenball.checks import LETTERS
from sevenball.errors import TooMany

MOST_LETTERS = 4000


def first_fault(letters):
    """The index of the first sign that cannot stand in a word, None if there is none."""
    before = ""
    for at, letter in enumerate(letters):
        if letter not in LETTERS or letter.swapcase() == before:
            return at
        before = letter
    return None


def first_stranger(letters):
    """The index of the first sign that is no letter, None if there is none."""
    for at, letter in enumerate(letters):
        if letter not in LETTERS:
            return at
    return None


def struck(letters):
    """What is left of any letters when they are struck out."""
    left = []
    for letter in letters:
        if left and left[-1] == letter.swapcase():
            left.pop()
        else:
            left.append(letter)
    return "".join(left)


def joined(one, other):
    """The product of two rows in which nothing can be struck out."""
    size = len(one)
    most = min(len(one), len(other))
    gone = 0
    while gone < most and one[size - 1 - gone] == other[gone].swapcase():
        gone += 1
    return one[:size - gone] + other[gone:]


def undone(letters):
    """The undoing of a row."""
    return letters[::-1].swapcase()


def coat_size(letters):
    """How many letters the coat of a row has in which nothing can be struck out."""
    last = len(letters) - 1
    size = 0
    while size < last - size and letters[size] == letters[last - size].swapcase():
        size += 1
    return size


def repeated(letters, many, most):
    """The product of so many equal rows, many from 0 on; TooMany if it has more than most letters."""
    if many == 0:
        return ""
    size = coat_size(letters)
    core = letters[size:len(letters) - size]
    if 2 * size + many * len(core) > most:
        raise TooMany("letters", MOST_LETTERS)
    # Of the empty row any number is the empty one; a string is not taken so many times.
    if core == "":
        return ""
    return letters[:size] + core * many + letters[len(letters) - size:]


def followers(letters):
    """The letters that can stand behind a row, in their order."""
    if letters == "":
        return LETTERS
    return LETTERS.replace(letters[-1].swapcase(), "")


def none_begins_another(rows):
    """Whether none of the strings is a beginning of another one, and none stands there twice."""
    # In the order of strings what begins with one stands right behind it.
    ordered = sorted([str(letters) for letters in rows])
    return not any([other.startswith(one) for one, other in zip(ordered, ordered[1:])])


def ascending(rows):
    """The strings in the order of words: shorter ones first."""
    ordered = sorted([str(letters) for letters in rows])
    return sorted(ordered, key=len)


def tree_of(rows):
    """The nodes for the beginnings of some strings of letters, and for each string the node at which it ends.

    A node tells for each letter the node behind it, or None; node 0 is the empty beginning.
    """
    tree = [[None for _ in LETTERS]]
    ends = []
    for letters in rows:
        at = 0
        for letter in letters:
            place = LETTERS.find(letter)
            if tree[at][place] is None:
                tree[at][place] = len(tree)
                tree.append([None for _ in LETTERS])
            at = tree[at][place]
        ends.append(at)
    return tree, ends
