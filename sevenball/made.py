"""Machines of sets that are told in a few words."""

from sevenball.checks import LETTERS, is_letter, is_within
from sevenball.errors import BadLetter, BadMachine, BadNumber, BadWord, TooMany
from sevenball.letter_rows import tree_of
from sevenball.machines import Machine, machine_of
from sevenball.standings import one_way, shifted
from sevenball.words import Word

MOST_WORDS = 30
MOST_UP_TO = 20
MOST_MODULUS = 12
MOST_RESTS = 12
MOST_WEIGHT = 100
MOST_TOLD = 100
ALL_TO_FIRST = (0, 0, 0, 0, 0, 0, 0, 0)


def everything():
    """All words."""
    return Machine(((True, ALL_TO_FIRST),))


def nothing():
    """No words."""
    return Machine(((False, ALL_TO_FIRST),))


def cone(word):
    """All words of which a word is a beginning."""
    return behind(word, everything())


def ending(word):
    """All words of which a word is a tail."""
    if not isinstance(word, Word):
        raise BadWord(0)
    size = len(word)
    # Each standing is the longest beginning of the word that is a tail of what was read. Where the next letter is
    # another one, it goes on as the next shorter such beginning does.
    rows = [list(ALL_TO_FIRST)]
    for at, letter in enumerate(word.letters):
        place = LETTERS.find(letter)
        shorter = rows[at][place]
        rows[at][place] = at + 1
        rows.append(list(rows[shorter]))
    return machine_of(tuple([(at == size, tuple(row)) for at, row in enumerate(rows)]))


def just_words(words):
    """The words of a list."""
    if not isinstance(words, (list, tuple)) or not all([isinstance(word, Word) for word in words]):
        raise BadWord(0)
    if len(words) > MOST_WORDS:
        raise TooMany("words", MOST_WORDS)
    tree, ends = tree_of([word.letters for word in words])
    dead = len(tree)
    taken = {end: True for end in ends}
    rows = [(at in taken, tuple([dead if to is None else to for to in nexts])) for at, nexts in enumerate(tree)]
    return machine_of((*rows, (False, (dead,) * len(LETTERS))))


def up_to(many):
    """All words of at most so many letters."""
    if not is_within(many, 0, MOST_UP_TO):
        raise BadNumber("many")
    rows = [(True, (at + 1,) * len(LETTERS)) for at in range(many + 1)]
    return Machine(rows + [(False, (many + 1,) * len(LETTERS))])


def lengths(modulus, rests):
    """The words whose number of letters leaves one of the rests."""
    check_rests(modulus, rests)
    return of_rests((1, 1, 1, 1, 1, 1, 1, 1), modulus, rests)


def weighed(weights, modulus, rests):
    """The words whose sum by the weights leaves one of the rests."""
    if not isinstance(weights, (list, tuple)) or len(weights) != 4:
        raise BadNumber("weights")
    if not all([is_within(weight, -MOST_WEIGHT, MOST_WEIGHT) for weight in weights]):
        raise BadNumber("weights")
    check_rests(modulus, rests)
    back = [-weight for weight in weights]
    return of_rests([*weights, *back], modulus, rests)


def check_rests(modulus, rests):
    """Raises BadNumber for a wrong modulus, or for what is no list of a few rests."""
    if not is_within(modulus, 1, MOST_MODULUS):
        raise BadNumber("modulus")
    if not isinstance(rests, (list, tuple)) or len(rests) > MOST_RESTS:
        raise BadNumber("rests")
    if not all([is_within(rest, 0, modulus - 1) for rest in rests]):
        raise BadNumber("rests")


def of_rests(steps, modulus, rests):
    """The words of which the steps of the letters, added up, leave one of the rests."""
    return Machine([
        (rest in rests, [(rest + step) % modulus for step in steps])
        for rest in range(modulus)
    ])


def of_letters(letters):
    """The words all of whose letters stand in a string of letters."""
    if not isinstance(letters, str) or len(letters) > MOST_TOLD:
        raise BadLetter(letters)
    if not all([is_letter(letter) for letter in letters]):
        raise BadLetter(letters)
    return Machine([
        (True, [0 if letter in letters else 1 for letter in LETTERS]),
        (False, (1,) * len(LETTERS)),
    ])


def powers(word):
    """All powers of a word from the empty word on."""
    if not isinstance(word, Word):
        raise BadWord(0)
    size = len(word)
    dead = size + 1
    rows = [one_way(letter, at + 1, dead) for at, letter in enumerate(word.letters)]
    rows.extend([(dead,) * len(LETTERS), (dead,) * len(LETTERS)])
    coat, core = word.core()
    if size > 0:
        # Behind the core, once or more often, it can stand again, or the undoing of the coat.
        end = len(coat) + len(core)
        place = LETTERS.find(core[0])
        rows[end] = rows[end][:place] + (len(coat) + 1,) + rows[end][place + 1:]
    return machine_of(tuple([(at in (0, size), row) for at, row in enumerate(rows)]))


def behind(word, machine):
    """All products of a word and a word of the set that it fits."""
    if not isinstance(word, Word):
        raise BadWord(0)
    if not isinstance(machine, Machine):
        raise BadMachine("machine")
    size = len(word)
    dead = size + len(machine.rows)
    ahead = [(False, one_way(letter, at + 1, dead)) for at, letter in enumerate(word.letters)]
    after = shifted(machine.rows, size)
    return machine_of((*ahead, *after, (False, (dead,) * len(LETTERS))))
