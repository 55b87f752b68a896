"""Machines that tests read by hand, and sets told word by word."""

import itertools
import random

from sevenball.machines import Machine
from sevenball.painted import Painted
from sevenball.words import words_of

LETTERS = "ABCDabcd"


def short_words(most):
    """All words of at most so many letters, ascending."""
    return [word for many in range(most + 1) for word in words_of(many)]


def mark_at(rows, letters):
    """Reads letters by hand in told rows, and returns the mark of the standing they come to."""
    standing = 0
    for letter in letters:
        standing = rows[standing][1][LETTERS.index(letter)]
    return rows[standing][0]


def told_rows(seed, standings, marks=(True, False)):
    """Rows that look as if they were thrown, the same ones for the same seed."""
    thrown = random.Random(seed)
    return [
        (thrown.choice(marks), [thrown.randrange(standings) for _ in LETTERS])
        for _ in range(standings)
    ]


def other_rows(rows, seed):
    """The same set told otherwise: standings twice and in another order, 0 still the first."""
    thrown = random.Random(seed)
    many = len(rows)
    order = list(range(1, 2 * many))
    thrown.shuffle(order)
    places = [0] + order
    found = [None] * (2 * many)
    for at in range(2 * many):
        mark, nexts = rows[at % many]
        found[places[at]] = (mark, [places[to + many * thrown.randrange(2)] for to in nexts])
    return found


def some_machines():
    return [Machine(told_rows(seed, standings)) for seed, standings in
            ((1, 1), (2, 2), (3, 2), (4, 3), (5, 3), (6, 4), (7, 5), (8, 6))]


def some_painted():
    return [Painted(told_rows(seed, standings, (0, 1, 2, 200))) for seed, standings in
            ((1, 1), (2, 2), (3, 3), (4, 4), (5, 6))]


def taken(machine, most):
    """The letters of all words of at most so many letters that a machine takes, read by hand."""
    return {word.letters for word in short_words(most) if mark_at(machine.rows, word.letters)}


def strings(most):
    """All strings of at most so many letters, words or not, shorter ones first."""
    return ["".join(row) for many in range(most + 1) for row in itertools.product(LETTERS, repeat=many)]


def is_word(letters):
    return all(one.swapcase() != other for one, other in zip(letters, letters[1:]))


def struck(letters):
    left = ""
    for letter in letters:
        left = left[:-1] if left and left[-1] == letter.swapcase() else left + letter
    return left


def undone(letters):
    return letters[::-1].swapcase()


def classes_of(rows):
    """How many standings can be told apart by strings, worked out round by round."""
    kind = [repr(mark) for mark, nexts in rows]
    while True:
        told = [(kind[at], *[kind[to] for to in rows[at][1]]) for at in range(len(rows))]
        numbers = {one: str(at) for at, one in enumerate(dict.fromkeys(told))}
        fresh = [numbers[one] for one in told]
        if len(set(fresh)) == len(set(kind)):
            return len(set(kind))
        kind = fresh


def least_strings(rows):
    """For each standing that some string leads to the least one, in the order in which they are met."""
    found = {0: ""}
    queue = [0]
    for at in queue:
        for letter, to in zip(LETTERS, rows[at][1]):
            if to not in found:
                found[to] = found[at] + letter
                queue.append(to)
    return found
