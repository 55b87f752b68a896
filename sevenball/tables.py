"""Tables: how many of some machines take each word."""

from sevenball.checks import LETTERS, is_within
from sevenball.errors import BadMachine, BadNumber, BadWord
from sevenball.machines import Machine
from sevenball.papers import Denial, Paper
from sevenball.points import Point
from sevenball.strict_rows import BARRED, NO_LETTER
from sevenball.words import Word

MOST_MACHINES = 60
MOST_TIMES = 60
# The greatest integer of 400 digits.
MOST_RADIUS = (10 ** 50) ** 8 - 1


class Just(Paper):
    """Each word of a set is taken just so many times, each other word by none."""

    def __init__(self, times):
        self.times = times

    def fields(self):
        """What the paper keeps."""
        return (self.times,)


class Uneven(Denial):
    """A word that is not taken just so many times, and how many take it."""

    def __init__(self, word, found):
        self.word = word
        self.found = found

    def fields(self):
        """What the paper keeps."""
        return (self.word, self.found)


class Alike(Paper):
    """Every word has the same count by two lists of machines."""


class Unlike(Denial):
    """A word with two counts by two lists of machines."""

    def __init__(self, word, found, other):
        self.word = word
        self.found = found
        self.other = other

    def fields(self):
        """What the paper keeps."""
        return (self.word, self.found, self.other)


def takers(machines, word):
    """The indexes of the machines that take a word."""
    check_machines(machines, "machines")
    if not isinstance(word, Word):
        raise BadWord(0)
    return tuple([at for at, machine in enumerate(machines) if machine.takes(word)])


def count_at(machines, word):
    """How many of the machines take a word."""
    return len(takers(machines, word))


def just(machines, whole, times):
    """Whether each word of a set is taken just so many times, each other word by none."""
    check_machines(machines, "machines")
    if not isinstance(whole, Machine):
        raise BadMachine("whole")
    if not is_within(times, 0, MOST_TIMES):
        raise BadNumber("times")
    together = [*machines, whole]
    for letters, lits in met_lits(together):
        found = lits[:-1].count(True)
        if found != (times if lits[-1] else 0):
            return Uneven(Word(letters), found)
    return Just(times)


def counts(machines):
    """For each count that some word has, ascending, the pair of the count and the least word that has it."""
    check_machines(machines, "machines")
    least = {}
    for letters, lits in met_lits(machines):
        found = lits.count(True)
        if found not in least:
            least[found] = Word(letters)
    return tuple([(many, least[many]) for many in sorted([int(key) for key in least])])


def compared(machines, others):
    """Whether every word has the same count by two lists of machines."""
    check_machines(machines, "machines")
    check_machines(others, "others")
    together = [*machines, *others]
    for letters, lits in met_lits(together):
        found = lits[:len(machines)].count(True)
        other = lits[len(machines):].count(True)
        if found != other:
            return Unlike(Word(letters), found, other)
    return Alike()


def point_for(word, radius=(1, 1)):
    """The point that a word makes of (r, 0, 0), r being the radius."""
    if not isinstance(word, Word):
        raise BadWord(0)
    if not isinstance(radius, (list, tuple)) or len(radius) != 2:
        raise BadNumber("radius")
    if not all([is_within(number, 1, MOST_RADIUS) for number in radius]):
        raise BadNumber("radius")
    return Point(radius[0], 0, 0, radius[1]).turned(word)


def check_machines(value, part):
    """Raises BadMachine for what is no list of a few machines."""
    if not isinstance(value, (list, tuple)) or len(value) > MOST_MACHINES:
        raise BadMachine(part)
    if not all([isinstance(machine, Machine) for machine in value]):
        raise BadMachine(part)


def met_lits(machines):
    """For each row of standings with a last letter the letters of its least word, and which machines take it.

    The least words come ascending. What follows a word hangs on its row and last letter alone.
    """
    tables = [machine.strict for machine in machines]
    start = (0,) * len(tables)
    met = {(NO_LETTER, start): True}
    queue = [("", start, NO_LETTER)]
    at = 0
    while at < len(queue):
        letters, standings, last = queue[at]
        yield letters, [table[standing][0] for table, standing in zip(tables, standings)]
        nexts = [table[standing][1] for table, standing in zip(tables, standings)]
        for letter in range(len(LETTERS)):
            following = tuple([row[letter] for row in nexts])
            if letter != BARRED[last] and (letter, following) not in met:
                met[(letter, following)] = True
                queue.append((letters + LETTERS[letter], following, letter))
        at += 1
