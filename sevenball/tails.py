"""Tails of sets: with which words the words of a set end, and what copies of it cover."""

from sevenball.checks import LETTERS, is_within
from sevenball.errors import BadMachine, BadNumber, BadWord, Thin
from sevenball.machines import Machine
from sevenball.papers import Denial, Paper
from sevenball.row_walks import beginnings
from sevenball.strict_rows import BARRED, NO_LETTER
from sevenball.words import Word

MOST_TURNS = 100
MOST_BEYOND = 100


class Covering(Paper):
    """Words such that the copies turned by them cover."""

    def __init__(self, turns):
        self.turns = turns

    def fields(self):
        """What the paper keeps."""
        return (self.turns,)


class Lost(Denial):
    """A word that is no tail."""

    def __init__(self, word):
        self.word = word

    def fields(self):
        """What the paper keeps."""
        return (self.word,)


def is_tail(machine, word):
    """Whether a word is a tail of the set."""
    check_machine(machine)
    if not isinstance(word, Word):
        raise BadWord(0)
    # In a strict machine a word behind one that it does not fit leads nowhere, so all standings may stand ahead.
    held = every_standing(machine.strict)
    for letter in word.letters:
        held = led_on_from(machine.strict, held, LETTERS.find(letter))
    return is_lit(machine.strict, held)


def lost_tail(machine):
    """The least word that is no tail of the set, None if there is none."""
    check_machine(machine)
    letters = missed_letters(machine.strict, every_standing(machine.strict), sure_behind(machine.strict))
    return None if letters is None else Word(letters)


def lead(machine, word):
    """The least word that fits a word such that their product lies in the set, None if there is none."""
    check_machine(machine)
    if not isinstance(word, Word):
        raise BadWord(0)
    letters = lead_letters(machine.strict, word.letters)
    return None if letters is None else Word(letters)


def covering(machine):
    """Words such that the copies turned by them cover, or the lost tail."""
    lost = lost_tail(machine)
    if lost is not None:
        return Lost(lost)
    rows = machine.strict
    turns = []
    missed = ""
    while missed is not None:
        # Each of these words is the least one to its standing, and each a new one: no copy before has what is missed.
        turns.append(~Word(lead_letters(rows, missed)))
        missed = uncovered_letters(rows, turns)
    return Covering(tuple(turns))


def uncovered(machine, turns):
    """The least word that lies in no copy turned by one of the turns, None if these copies cover."""
    check_machine(machine)
    if not are_turns(turns):
        raise BadWord(0)
    letters = uncovered_letters(machine.strict, turns)
    return None if letters is None else Word(letters)


def beyond(machine, many):
    """A word that lies in no copy turned by a word of at most so many letters."""
    lost = lost_tail(machine)
    if lost is None:
        raise BadMachine("machine")
    if not is_within(many, 0, MOST_BEYOND):
        raise BadNumber("many")
    # More letters than can be struck out stand ahead of the lost tail, and fit it.
    ahead = "A" if len(lost) == 0 else lost[0]
    return Word(ahead * (many + 1) + lost.letters)


def check_machine(value):
    """Raises BadMachine for what is no machine."""
    if not isinstance(value, Machine):
        raise BadMachine("machine")


def check_full(machine):
    """Raises Thin for a machine with a lost tail."""
    lost = lost_tail(machine)
    if lost is not None:
        raise Thin(lost)


def are_turns(value):
    """Whether any value is a list of words, and not too many."""
    if not isinstance(value, (list, tuple)) or len(value) > MOST_TURNS:
        return False
    return all([isinstance(turn, Word) for turn in value])


def every_standing(rows):
    """The numbers of all standings."""
    return tuple(range(len(rows)))


def led_on_from(rows, held, letter):
    """The standings, ascending, to which the letter with this index leads from those held."""
    return tuple(sorted(set([int(rows[at][1][letter]) for at in held])))


def is_lit(rows, held):
    """Whether one of the standings is lit."""
    return any([rows[at][0] for at in held])


def sure_behind(rows):
    """For each last letter the standing of strict rows from which all is taken that can follow it; empty if none is."""
    for at, (lit, nexts) in enumerate(rows):
        if lit and nexts[0] == at:
            # If it is the one behind A, the one behind the undoing of A is found behind B.
            sure = list(nexts)
            sure[BARRED[0]] = rows[nexts[1]][1][BARRED[0]]
            if is_lit_for_ever(rows, sure):
                return sure
    return []


def is_lit_for_ever(rows, sure):
    """Whether the standings, one for each last letter, are lit, and lead to each other by all that can follow."""
    return all([rows[at][0] for at in sure]) and all([
        rows[at][1][letter] == sure[letter]
        for last, at in enumerate(sure) for letter in range(len(LETTERS)) if letter != BARRED[last]
    ])


def missed_letters(rows, start, sure):
    """The letters of the least word that leads from none of the standings to a lit one, None if there is none.

    From a standing that is sure, told for each last letter, no word is missed.
    """
    _, letters = missed_behind(rows, start, sure, NO_LETTER, None)
    return letters


def missed_behind(rows, start, sure, last, most):
    """As missed_letters, of words behind a letter, told by its index, in a pair: True, and the letters or None.

    False and None if more than most sets of standings are to be looked at; of None there may be any number.
    """
    met = {(last, start): True}
    queue = [("", start, last)]
    at = 0
    while at < len(queue):
        letters, held, last = queue[at]
        if not is_lit(rows, held):
            return True, letters
        if most is not None and len(queue) > most:
            return False, None
        for letter in range(len(LETTERS)):
            if letter == BARRED[last]:
                continue
            following = led_on_from(rows, held, letter)
            if (letter, following) in met or (len(sure) > 0 and sure[letter] in following):
                continue
            met[(letter, following)] = True
            queue.append((letters + LETTERS[letter], following, letter))
        at += 1
    return True, None


def uncovered_letters(rows, turns):
    """The letters of the least word that lies in no copy of the set of strict rows, None if these copies cover."""
    standings = list(rows)
    starts = []
    for turn in turns:
        starts.append(len(standings) if len(turn) > 0 else 0)
        ahead = beginnings(rows, turn.letters, len(standings), 0)
        standings.extend(ahead)
    return missed_letters(standings, tuple(starts), sure_behind(rows))


def steps_to(rows):
    """For each standing of strict rows but the first the one ahead on its least string, and the index of the letter."""
    ahead = {}
    for at, (_, nexts) in enumerate(rows):
        for letter, to in enumerate(nexts):
            if to > 0 and to not in ahead:
                ahead[to] = (at, letter)
    return ahead


def lead_letters(rows, letters):
    """The letters of the least word ahead of some letters with which strict rows take them, None if there is none."""
    # The standings come ascending, as their least strings do; of two that come together the first one stays.
    begun = {at: at for at in range(len(rows))}
    for letter in letters:
        following = {}
        # A copy is gone over, as behind the loop both names mean one dict.
        for at in list(begun):
            following.setdefault(rows[at][1][LETTERS.find(letter)], begun[at])
        begun = following
    for at in begun:
        if rows[at][0]:
            return least_letters(rows, begun[at])
    return None


def least_letters(rows, standing):
    """The letters of the least string that leads to a standing of strict rows."""
    ahead = steps_to(rows)
    letters = []
    while standing > 0:
        standing, letter = ahead[standing]
        letters.append(LETTERS[letter])
    return "".join(letters[::-1])
