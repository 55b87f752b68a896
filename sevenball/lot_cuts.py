"""Two balls of all words by turns of a lot, and what shows that a lone lot has none."""

from sevenball.checks import LETTERS
from sevenball.cuts import is_sound
from sevenball.errors import BadLot, BadPaper
from sevenball.letter_rows import undone
from sevenball.lots import Lot
from sevenball.made import everything
from sevenball.net_rows import loops_of
from sevenball.painted import painted_of
from sevenball.papers import Denial
from sevenball.pieces import Cut
from sevenball.standings import led_behind, led_to
from sevenball.strict_rows import BARRED
from sevenball.whole_balls import makes_balls
from sevenball.words import Word

# The colours of the four pieces: of what begins with the first word of a basis, or is put to it; with its
# undoing; with the second word; with its undoing.
FIRST = 1
FIRST_BACK = 2
SECOND = 3
SECOND_BACK = 4
# So many powers are looked at first, then twice as many each time.
FIRST_REACH = 16


class Lone(Denial):
    """A word of which all words of a lot are powers."""

    def __init__(self, word):
        self.word = word

    def fields(self):
        """What the paper keeps."""
        return (self.word,)


def two_balls(lot):
    """A cut of all words to two balls by turns of the lot, or the paper that says that it is lone."""
    check_lot(lot)
    if lot.lone is not None:
        return Lone(lot.lone)
    turns = ((Word(), 0), (lot.basis[0], 0), (Word(), 1), (lot.basis[1], 1))
    return Cut(painted_of(four_pieces(lot.net)), turns)


def check_lot(value):
    """Raises BadLot for what is no lot."""
    if not isinstance(value, Lot):
        raise BadLot("lot")


def four_pieces(net):
    """The rows of four pieces by the first two loops of a net.

    By which loop a word goes first tells what it begins with. The first places stand for words that went by none
    yet, those behind them for words that went by nothing but the undoing of the first loop: if this is all, or
    another loop than these two follows, they come of words that begin with none by this undoing alone.
    """
    size = len(net)
    loops = loops_of(net)
    lasting = {colour: 2 * size + colour - 1 for colour in (FIRST, FIRST_BACK, SECOND, SECOND_BACK)}
    ends = {}
    for at, letter, to in loops[2:]:
        ends[(at, letter)] = (FIRST, FIRST)
        ends[(to, BARRED[letter])] = (FIRST, FIRST)
    (at, letter, to), (other, further, end) = loops[:2]
    ends[(at, letter)] = (FIRST, FIRST)
    ends[(other, further)] = (SECOND, FIRST_BACK)
    ends[(end, BARRED[further])] = (SECOND_BACK, FIRST_BACK)
    back = (to, BARRED[letter])
    rows = []
    for late in (0, 1):
        for place, nexts in enumerate(net):
            row = []
            for sign, reached in enumerate(nexts):
                if reached is None:
                    row.append(lasting[FIRST])
                elif (place, sign) in ends:
                    row.append(lasting[ends[(place, sign)][late]])
                else:
                    row.append(reached + (size if late or (place, sign) == back else 0))
            rows.append((FIRST, tuple(row)))
    rows.extend([(colour, (lasting[colour],) * len(LETTERS)) for colour in lasting])
    return tuple(rows)


def shows_two(lot, value):
    """Whether any value is a right cut to two balls by turns of the lot, or a right paper that says it is lone."""
    check_lot(lot)
    if isinstance(value, Lone):
        return isinstance(value.word, Word) and lot.lone is not None and is_power(lot.lone, value.word)
    if lot.lone is not None or not is_cut_by(lot, value):
        return False
    return value.painted.coloured() == everything() and makes_balls(value.painted, value.turns, 2)


def is_power(word, of):
    """Whether a word is a power of another one."""
    root, many = word.root()
    other, each = of.root()
    if many == 0 or each == 0:
        return many == 0
    return many % each == 0 and (other == root or other == ~root)


def factors_in(word, of):
    """With how many factors a word is a power of another one, of which it is one; below 0 of undoings."""
    root, many = word.root()
    other, each = of.root()
    if many == 0 or each == 0:
        return 0
    return many // each if root == other else -(many // each)


def is_cut_by(lot, value):
    """Whether any value is a sound cut with turns of the lot, each to ball 0 or 1."""
    return is_sound(value) and all([turn in lot and ball < 2 for turn, ball in value.turns])


def least_fault(lot, cut):
    """The least number of factors of the word of a lone lot with which it shows that a cut makes no two balls."""
    check_lot(lot)
    if lot.lone is None:
        raise BadLot("lot")
    if not is_cut_by(lot, cut):
        raise BadPaper("cut")
    pieces = [(factors_in(turn, lot.lone), ball, at + 1) for at, (turn, ball) in enumerate(cut.turns)]
    most = max([int(abs(factors)) for factors, _, _ in pieces], default=0)
    down = colours_of_powers(cut.painted.rows, ~lot.lone, most)
    many = 0
    reach = FIRST_REACH
    while True:
        up = colours_of_powers(cut.painted.rows, lot.lone, reach + most)
        while many < reach:
            if is_fault(pieces, up, down, many):
                return many
            many += 1
        reach = 2 * reach


def colours_of_powers(rows, word, most):
    """The colours of the powers of a word with 0 factors up to most."""
    coat, core = word.core()
    back = undone(coat.letters)
    standing = led_to(rows, coat.letters)
    colours = [rows[0][0]]
    for _ in range(most):
        standing = led_behind(rows, standing, core.letters)
        colours.append(rows[led_behind(rows, standing, back)][0])
    return colours


def is_fault(pieces, up, down, many):
    """Whether the power with so many factors goes nowhere, or not just one power goes to it on one of the balls."""
    if up[many] == 0:
        return True
    come = []
    for factors, ball, colour in pieces:
        left = many - factors
        if colour == (up[left] if left >= 0 else down[-left]):
            come.append(ball)
    return come.count(0) != 1 or come.count(1) != 1
