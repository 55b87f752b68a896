"""Walks by words in rows of standings, in one of them and in two at once."""

from sevenball.checks import LETTERS
from sevenball.errors import TooMany
from sevenball.letter_rows import undone
from sevenball.standings import shifted
from sevenball.strict_rows import BARRED, NO_LETTER

# The bound that errors tell where a set is cut.
MOST_OF_CUTS = 2000
# The rows of a machine that takes no word.
NO_WORDS = ((False, (0, 0, 0, 0, 0, 0, 0, 0)),)


def apart_letters(one, other):
    """The letters of the least word with unlike marks in two told rows, None if there is none.

    Standings, with the last letter, that words lead to in both at once are taken for equal. Where this
    follows for two of them already, lesser words show all that could be seen behind them.
    """
    if one[0][0] != other[0][0]:
        return ""
    heads = {}
    sizes = {}
    met = [(0, 0, NO_LETTER, 0)]
    at = 0
    while at < len(met):
        standing, also, last, _ = met[at]
        for letter in range(len(LETTERS)):
            if letter == BARRED[last]:
                continue
            to = one[standing][1][letter]
            too = other[also][1][letter]
            if one[to][0] != other[too][0]:
                return way_to(met, at) + LETTERS[letter]
            small = head_of(heads, (0, to, letter))
            great = head_of(heads, (1, too, letter))
            if small == great:
                continue
            if sizes.get(small, 1) > sizes.get(great, 1):
                small, great = great, small
            heads[small] = great
            sizes[great] = sizes.get(great, 1) + sizes.get(small, 1)
            met.append((to, too, letter, at))
        at += 1
    return None


def head_of(heads, node):
    """The one that stands for all that a node is taken for equal with."""
    while node in heads:
        node = heads[node]
    return node


def way_to(met, at):
    """The letters that lead to the entry with this index; an entry ends with its last letter and the index before."""
    letters = []
    while at > 0:
        letters.append(LETTERS[met[at][2]])
        at = met[at][3]
    return "".join(letters[::-1])


def paired(one, other):
    """The pairs of standings that strings lead to in two rows at once, and for each the eight that come next."""
    pairs = [(0, 0)]
    numbers = {(0, 0): 0}
    nexts = []
    at = 0
    while at < len(pairs):
        standing, also = pairs[at]
        row = []
        for pair in zip(one[standing][1], other[also][1]):
            if pair not in numbers:
                numbers[pair] = len(pairs)
                pairs.append(pair)
            row.append(numbers[pair])
        nexts.append(tuple(row))
        at += 1
    return pairs, nexts


def walked(rows, start, most):
    """The tuples of standings that strings lead to at once from a start, and for each the eight that come next.

    TooMany if there are more than most; None stands for no bound.
    """
    met = [start]
    numbers = {start: 0}
    nexts = []
    at = 0
    while at < len(met):
        ahead = [rows[standing][1] for standing in met[at]]
        row = []
        for following in zip(*ahead):
            if following not in numbers:
                numbers[following] = len(met)
                met.append(following)
            row.append(numbers[following])
        if most is not None and len(met) > most:
            raise TooMany("standings", MOST_OF_CUTS)
        nexts.append(tuple(row))
        at += 1
    return met, nexts


def beginnings(rows, letters, first, base):
    """A row for each beginning of some letters that is not all of them, for the set of rows turned by the letters.

    These rows are to stand from the index first on, the told ones from base on. As long as a word goes along
    the letters, it is kept in mind how far; where it leaves them, what is left of them is undone ahead of it.
    """
    size = len(letters)
    back = [0]
    for letter in undone(letters):
        back.append(rows[back[-1]][1][LETTERS.find(letter)])
    made = []
    for at, letter in enumerate(letters):
        mark, nexts = rows[back[size - at]]
        row = [to + base for to in nexts]
        row[LETTERS.find(letter)] = first + at + 1 if at + 1 < size else base
        made.append((mark, tuple(row)))
    return made


def turned_rows(rows, letters):
    """The rows of the set of other rows turned by some letters."""
    size = len(letters)
    return tuple(beginnings(rows, letters, 0, size)) + shifted(rows, size)
