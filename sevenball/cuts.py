"""Cuts: where words go and come from, codes, the cuts that come of them, and cuts cut anew."""

from sevenball.checks import is_within
from sevenball.code_rows import codes_for, first_code, lead_all
from sevenball.cut_rows import cut_rows, met_alone
from sevenball.errors import BadNumber, BadPaper, BadWord, TooMany
from sevenball.letter_rows import ascending, joined, none_begins_another, undone
from sevenball.painted import Painted, painted_of
from sevenball.papers import Paper
from sevenball.pieces import Cut
from sevenball.row_walks import turned_rows, walked
from sevenball.standings import led_to, shifted
from sevenball.strict_rows import strict_of
from sevenball.tails import check_full, check_machine
from sevenball.words import Word

MOST_TURNS = 200
MOST_BALL = 63
MOST_CODED = 8
MOST_CODES = 96
MOST_CUT = 6


class Codes(Paper):
    """For each ball the words that lead it into a set."""

    def __init__(self, ahead):
        self.ahead = ahead

    def fields(self):
        """What the paper keeps."""
        return (self.ahead,)


def moved_by(cut, word):
    """The ball and the word to which a word goes, None if it goes nowhere."""
    check_cut(cut, "cut")
    colour = cut.painted.colour_of(word)
    if colour == 0:
        return None
    turn, ball = cut.turns[colour - 1]
    return ball, turn * word


def come_to(cut, ball, word):
    """All words that go to a word on a ball, ascending."""
    check_cut(cut, "cut")
    if not is_within(ball, 0, MOST_BALL):
        raise BadNumber("ball")
    if not isinstance(word, Word):
        raise BadWord(0)
    come = []
    for at, (turn, its) in enumerate(cut.turns):
        letters = joined(undone(turn.letters), word.letters)
        if its == ball and cut.painted.rows[led_to(cut.painted.rows, letters)][0] == at + 1:
            come.append(letters)
    return tuple([Word(letters) for letters in ascending(come)])


def check_cut(value, part):
    """Raises BadPaper for what is no sound cut."""
    if not is_sound(value):
        raise BadPaper(part)


def is_sound(value):
    """Whether any value is a sound cut."""
    if not isinstance(value, Cut) or not isinstance(value.painted, Painted):
        return False
    if not isinstance(value.turns, (list, tuple)) or len(value.turns) > MOST_TURNS:
        return False
    if not all([is_turn_to(pair, MOST_BALL) for pair in value.turns]):
        return False
    many = len(value.turns)
    # Standings to which no word leads may have any colour; it takes longer to leave them out.
    return all([colour <= many for colour, _ in value.painted.rows]) or value.painted.colours()[-1] <= many


def is_turn_to(value, most):
    """Whether any value is a pair of a word and a ball."""
    if not isinstance(value, (list, tuple)) or len(value) != 2:
        return False
    return isinstance(value[0], Word) and is_within(value[1], 0, most)


def codes(machine, count):
    """Codes of the set to so many balls."""
    check_machine(machine)
    if not is_within(count, 1, MOST_CODED):
        raise BadNumber("count")
    ahead = few_codes(machine, count)
    return Codes(tuple([tuple([Word(letters) for letters in row]) for row in ahead]))


def few_codes(machine, count):
    """For each ball the letters of codes; TooMany if there are too many of them."""
    check_full(machine)
    ahead = codes_for(machine.strict, count)
    if len(ahead) * len(ahead[0]) > MOST_CODES:
        raise TooMany("words", MOST_CODES)
    return ahead


def right_codes(machine, value):
    """For each ball the letters of codes, if any value is right codes of the set to some balls; otherwise None."""
    if not isinstance(value, Codes) or not isinstance(value.ahead, (list, tuple)):
        return None
    if not 1 <= len(value.ahead) <= MOST_CODED:
        return None
    if not all([isinstance(row, (list, tuple)) for row in value.ahead]):
        return None
    if sum([len(row) for row in value.ahead]) > MOST_CODES:
        return None
    if not all([isinstance(word, Word) for row in value.ahead for word in row]):
        return None
    ahead = [[word.letters for word in row] for row in value.ahead]
    if not none_begins_another([letters for row in ahead for letters in row]):
        return None
    return ahead if all([lead_all(machine.strict, row) for row in ahead]) else None


def led_by(machine, value, ball, word):
    """The word to which codes lead a word of a ball."""
    check_machine(machine)
    ahead = right_codes(machine, value)
    if ahead is None:
        raise BadPaper("value")
    if not is_within(ball, 0, len(ahead) - 1):
        raise BadNumber("ball")
    if not isinstance(word, Word):
        raise BadWord(0)
    return Word(first_code(machine.strict, ahead[ball], word.letters) + word.letters)


def cut(machine, count):
    """A cut of the set to so many balls."""
    check_machine(machine)
    if not is_within(count, 1, MOST_CUT):
        raise BadNumber("count")
    return cut_by(machine, few_codes(machine, count))


def cut_with(machine, value):
    """A cut of the set by which all but the words of ball 0 come of what codes lead them to."""
    check_machine(machine)
    ahead = right_codes(machine, value)
    if ahead is None:
        raise BadPaper("value")
    return cut_by(machine, ahead)


def cut_by(machine, ahead):
    """The cut that comes of the letters of codes."""
    rows, turns = cut_rows(machine.strict, ahead)
    return Cut(painted_of(rows), tuple([(Word(letters), ball) for letters, ball in turns]))


def split(cut, ball, other):
    """The cut by which one ball of a cut is cut anew by another one."""
    check_cut(cut, "cut")
    if not is_within(ball, 0, MOST_BALL) or all([its != ball for _, its in cut.turns]):
        raise BadNumber("ball")
    if not is_sound(other) or len(other.turns) == 0:
        raise BadPaper("other")
    more = max([int(its) for _, its in other.turns])
    above = [its + more for _, its in cut.turns if its > ball]
    if more + ball > MOST_BALL or any([its > MOST_BALL for its in above]):
        raise TooMany("balls", MOST_BALL + 1)
    rows, places = split_rows(cut, ball, other, more)
    if len(places) > MOST_TURNS:
        raise TooMany("colours", MOST_TURNS)
    return Cut(painted_of(rows), tuple([(Word(letters), its) for letters, its in places]))


def split_rows(cut, ball, other, more):
    """The rows of a cut that is cut anew, and for each colour the letters of the turn and the ball."""
    stacked = list(cut.painted.strict)
    start = [0]
    behind = {}
    for turn, its in cut.turns:
        if its == ball and turn.letters not in behind:
            behind[turn.letters] = len(start)
            start.append(len(stacked))
            # Strict rows all come to where nothing goes on together, by strings that are no words.
            ahead = strict_of(turned_rows(other.painted.strict, undone(turn.letters)), 0)
            stacked.extend(shifted(ahead, start[-1]))
    met, nexts = walked(stacked, tuple(start), None)
    numbers = {None: 0}
    rows = []
    for standings, row in zip(met, nexts):
        place = None
        colour = stacked[standings[0]][0]
        if colour > 0:
            turn, its = cut.turns[colour - 1]
            if its == ball:
                place = place_behind(turn, ball, other, stacked[standings[behind[turn.letters]]][0])
            else:
                place = (turn.letters, its + more if its > ball else its)
        numbers.setdefault(place, len(numbers))
        rows.append((numbers[place], row))
    return met_alone(strict_of(rows, 0), list(numbers)[1:])


def place_behind(turn, ball, other, colour):
    """The letters of the turn and the ball of a word that has a colour behind a turn, None if it goes nowhere."""
    if colour == 0:
        return None
    further, its = other.turns[colour - 1]
    return joined(further.letters, turn.letters), its + ball
