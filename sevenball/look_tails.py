"""Whether papers about tails are right, and words beyond copies."""

from sevenball.checks import LETTERS
from sevenball.tails import (
    Covering,
    Lost,
    are_turns,
    beyond,
    check_machine,
    is_lit,
    is_tail,
    led_on_from,
    steps_to,
    uncovered,
)
from sevenball.words import Word


def shows_covering(machine, value):
    """Whether any value is a right paper about what copies of the set cover."""
    check_machine(machine)
    if isinstance(value, Lost):
        return isinstance(value.word, Word) and not is_tail(machine, value.word)
    if not isinstance(value, Covering) or not are_turns(value.turns):
        return False
    if len({turn.letters for turn in value.turns}) < len(value.turns):
        return False
    return uncovered(machine, value.turns) is None


def shows_beyond(machine, many, value):
    """Whether any value is a word that lies in no copy turned by a word of at most so many letters."""
    # This raises what is to be raised.
    beyond(machine, many)
    if not isinstance(value, Word):
        return False
    rows = machine.strict
    away = letters_to(rows)
    held = []
    # A turn that strikes out so many first letters has that many fewer to stand ahead of those that are left.
    for at in range(len(value) + 1):
        if at > 0:
            held = list(led_on_from(rows, held, LETTERS.find(value.letters[at - 1])))
        held.extend([to for to in range(len(rows)) if away[to] <= many - at])
    return not is_lit(rows, held)


def letters_to(rows):
    """For each standing of strict rows how many letters the least string has that leads to it."""
    away = [0 for _ in rows]
    ahead = steps_to(rows)
    for to in ahead:
        away[to] = away[ahead[to][0]] + 1
    return away
