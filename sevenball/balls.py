"""Balls of cones: words apart, tops, and the cut of a cone to as many balls as there are tops."""

from sevenball.checks import LETTERS, is_within, undoing
from sevenball.errors import BadNumber, BadPiece, BadWord, TooMany
from sevenball.letter_rows import joined, none_begins_another, undone
from sevenball.machines import machine_of
from sevenball.made import cone
from sevenball.painted import Painted
from sevenball.pieces import Cut
from sevenball.standings import one_way, shifted
from sevenball.words import Word

MOST_APART = 30
MOST_TOPS = 12
MOST_BELOW = 24
MOST_TOP = 40


def twin(word):
    """The word with the undoing of its last letter in the place of this one."""
    if not isinstance(word, Word) or not has_twin(word):
        raise BadWord(0)
    return Word(twin_letters(word.letters))


def has_twin(word):
    """Whether a word has a twin."""
    return len(word) > 0 and word.letters[-1:] != word.letters[-2:-1]


def twin_letters(letters):
    """Letters with the undoing of the last one in its place."""
    return letters[:-1] + undoing(letters[-1])


def are_apart(words):
    """Whether none of the words is a beginning of another one that stands at another place."""
    if not isinstance(words, (list, tuple)) or len(words) > MOST_APART:
        raise BadWord(0)
    if not all([isinstance(word, Word) for word in words]):
        raise BadWord(0)
    return none_begins_another([word.letters for word in words])


def tops_of(word, count):
    """So many tops of a word."""
    if not isinstance(word, Word):
        raise BadWord(0)
    if not is_within(count, 1, MOST_TOPS):
        raise BadNumber("count")
    if len(word) > MOST_BELOW:
        raise TooMany("letters", MOST_BELOW)
    one, other = [letter for letter in "ABC" if letter not in word.letters[-1:].upper()][:2]
    return tuple([Word(word.letters + one * at + other) for at in range(count)])


def cone_cut(word, tops):
    """A cut of the cone of a word to as many balls as there are tops of it."""
    if not isinstance(word, Word):
        raise BadWord(0)
    if not isinstance(tops, (list, tuple)) or not 1 <= len(tops) <= MOST_TOPS:
        raise BadWord(0)
    if not all([isinstance(top, Word) for top in tops]):
        raise BadWord(0)
    if any([len(top) > MOST_TOP for top in tops]):
        raise TooMany("letters", MOST_TOP)
    if not are_tops(word, tops):
        raise BadPiece("tops")
    machines = []
    turns = []
    for ball, top in enumerate(tops):
        ahead = top.letters[:-1]
        machines.extend([cone(top), cone(twin(top))])
        turns.extend([(Word(), ball), (Word(joined(top.letters, undone(ahead))), ball)])
    rest = cone(word) - Painted.of(machines).coloured()
    # What is led by no top stays on ball 0; what comes of it there by the other turn, again and again, stays, too.
    again = led_again(rest, tops[0].letters)
    machines[0] = machines[0] | rest | again
    machines[1] = machines[1] - again
    return Cut(Painted.of(machines), tuple(turns))


def are_tops(word, tops):
    """Whether the words, not too many, are tops of a word."""
    if not all([has_twin(top) for top in tops]):
        return False
    every = [top.letters for top in tops]
    every.extend([twin_letters(top.letters) for top in tops])
    return none_begins_another(every) and all([letters.startswith(word.letters) for letters in every])


def led_again(rest, top):
    """The machine of all s * .. * s * r with at least one s, r of the set rest, all of whose words begin with no top.

    The turn s undoes the last letter of the top behind what stands ahead of it. So these words begin with what
    stands ahead and the undoing, once or more often; then r stands there without what stands ahead.
    """
    ahead = top[:-1]
    size = len(ahead)
    again = undoing(top[-1])
    behind = rest.turned(Word(undone(ahead))).strict
    dead = size + 2 + len(behind)
    rows = [(False, one_way(letter, at + 1, dead)) for at, letter in enumerate(ahead + again)]
    after = shifted(behind, size + 2)
    lit, nexts = after[0]
    row = list(nexts)
    row[LETTERS.index(again)] = size + 1
    rows.append((lit, tuple(row)))
    rows.extend(after)
    rows.append((False, (dead,) * len(LETTERS)))
    return machine_of(tuple(rows))
