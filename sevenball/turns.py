"""Turns: rotations by integers over a power of 7, told by a word and a quarter turn."""

from sevenball.checks import is_integer
from sevenball.errors import BadNumber, BadPoint, BadText, BadTurn, BadWord
from sevenball.letter_rows import MOST_LETTERS, ascending, joined, repeated, undone
from sevenball.points import Point
from sevenball.quarters import Quarter, quarter_in
from sevenball.sevens import led_on, power_of_seven
from sevenball.text_items import items_of
from sevenball.words import Word, word_in

# Each quarter turn leads back when it is made so many times.
FULL_ROUND = 12


class Turn:
    """The quarter turn, and then the word."""

    def __init__(self, word, quarter=None):
        if not isinstance(word, Word):
            raise BadWord(0)
        if quarter is None:
            quarter = Quarter(1, 2, 3)
        if not isinstance(quarter, Quarter):
            raise BadTurn("quarter")
        self._word = word
        self.quarter = quarter
        self.rows = rows_of(word.letters, quarter)
        self.under = power_of_seven(len(word))

    @property
    def word(self):
        """The word of the turn."""
        return self._word

    @word.setter
    def word(self, value):
        # Operators make turns, so no attribute of a turn is assigned under this name: Point has a setter of it.
        raise AttributeError("the word of a turn is not assigned")

    @staticmethod
    def of(rows, under=1):
        """The turn whose matrix is rows, all divided by under."""
        if not are_rows(rows):
            raise BadTurn("rows")
        if not is_integer(under) or under < 1:
            raise BadTurn("under")
        if not is_rotation(rows, under):
            raise BadTurn("turn")
        # The columns are where the three axes are led to: the word, and then the quarter turn, stand there.
        columns = [Point(x, y, z, under) for x, y, z in zip(rows[0], rows[1], rows[2])]
        first, second, third = [column.bare for column in columns]
        # By another prime below than 7 an axis is led to no axis.
        if first.under * second.under * third.under > 1:
            raise BadTurn("turn")
        quarter = Quarter(
            first.x + 2 * second.x + 3 * third.x,
            first.y + 2 * second.y + 3 * third.y,
            first.z + 2 * second.z + 3 * third.z,
        )
        return Turn(columns[0].word, quarter)

    @staticmethod
    def read(text):
        """The turn with this text."""
        items = items_of(text)
        word = word_in(items[0])
        if word is None:
            raise BadText(0)
        if len(items) < 2 or items[1] != "/":
            raise BadText(1)
        return Turn(word, quarter_in(items, 2))

    def __str__(self):
        return f"{self.word} / {self.quarter}"

    def __eq__(self, other):
        return (
            isinstance(other, Turn)
            and self.word == other.word
            and self.quarter == other.quarter
        )

    def __call__(self, point):
        """The point to which the turn leads one."""
        if not isinstance(point, Point):
            raise BadPoint("point")
        return self.quarter.point_to(point).turned(self.word)

    def __mul__(self, other):
        if not isinstance(other, Turn):
            raise BadTurn("other")
        # A word and then a quarter turn is the quarter turn, and then the renamed word.
        letters = joined(self.word.letters, self.quarter.renamed(other.word.letters))
        return Turn(Word(letters), self.quarter * other.quarter)

    def __invert__(self):
        back = ~self.quarter
        return Turn(Word(back.renamed(undone(self.word.letters))), back)

    def power(self, times):
        """So many of these turns, one behind the other; of a negative integer so many undoings."""
        if not is_integer(times):
            raise BadNumber("times")
        turn = self if times >= 0 else ~self
        whole, left = divmod(abs(times), FULL_ROUND)
        around, _ = in_a_row(turn, FULL_ROUND)
        rest, quarter = in_a_row(turn, left)
        # The rest can strike out no more letters than it has.
        letters = repeated(around, whole, MOST_LETTERS + len(rest))
        return Turn(Word(joined(letters, rest)), quarter)


def rows_of(letters, quarter):
    """The three rows of the matrix of letters behind a quarter turn, times 7 for each letter."""
    columns = []
    for x, y, z in ((1, 0, 0), (0, 1, 0), (0, 0, 1)):
        first, second, third = quarter.arranged(x, y, z)
        columns.append(led_on(letters, first, second, third))
    return tuple([tuple([column[at] for column in columns]) for at in range(3)])


def in_a_row(turn, many):
    """The letters, however many, and the quarter turn of so many equal turns, one behind the other."""
    letters = ""
    quarter = Quarter(1, 2, 3)
    for _ in range(many):
        letters = joined(letters, quarter.renamed(turn.word.letters))
        quarter = quarter * turn.quarter
    return letters, quarter


def are_rows(value):
    """Whether any value is a list of three lists of three integers."""
    if not is_triple(value) or not all([is_triple(row) for row in value]):
        return False
    return all([is_integer(number) for row in value for number in row])


def is_triple(value):
    """Whether any value is a list of three items."""
    return isinstance(value, (list, tuple)) and len(value) == 3


def is_rotation(rows, under):
    """Whether three rows of integers, all divided by under, are a rotation, and no mirror."""
    for at in range(3):
        for to in range(3):
            wanted = under * under if at == to else 0
            if sum([one * other for one, other in zip(rows[at], rows[to])]) != wanted:
                return False
    (a, b, c), (d, e, f), (g, h, i) = rows
    return a * (e * i - f * h) + b * (f * g - d * i) + c * (d * h - e * g) > 0


def fixed_points(turn):
    """The two points of radius 1 that stay, or none; BadTurn for the unit, under which all stay."""
    if not isinstance(turn, Turn) or turn == Turn(Word()):
        raise BadTurn("turn")
    axis = axis_of(turn.quarter)
    # Where points stay, the word is one, and the renamed undoing of it, with nothing struck out between.
    size = len(turn.word) // 2
    ahead = turn.word.letters[:size]
    if axis is None or turn.word.letters[size:] != turn.quarter.renamed(undone(ahead)):
        return ()
    point = axis.turned(Word(ahead))
    if (point.x, point.y, point.z) < (0, 0, 0):
        return (point, -point)
    return (-point, point)


def axis_of(quarter):
    """The point on the axis that a quarter turn turns about, None if it turns about no axis, or not at all."""
    stays = (quarter.x == 1, quarter.y == 2, quarter.z == 3)
    if stays == (True, False, False):
        return Point(1, 0, 0)
    if stays == (False, True, False):
        return Point(0, 1, 0)
    if stays == (False, False, True):
        return Point(0, 0, 1)
    return None


def turns_between(one, other):
    """All turns that lead one point to another one, ascending by words, then by quarter turns."""
    if not isinstance(one, Point):
        raise BadPoint("one")
    if not isinstance(other, Point):
        raise BadPoint("other")
    start = one.bare
    goal = other.bare
    found = {}
    for quarter in Quarter.every():
        if quarter.point_to(start) == goal:
            back = quarter.renamed(undone(one.descent[0]))
            found.setdefault(joined(other.descent[0], back), []).append(quarter)
    return tuple([Turn(Word(letters), quarter) for letters in ascending(found) for quarter in found[letters]])
