"""Quarter turns: rotations that lead each of the three axes to one of them."""

from sevenball.checks import is_integer, is_letter
from sevenball.errors import BadLetter, BadPoint, BadText, BadTurn, BadWord
from sevenball.points import Point
from sevenball.sevens import LETTER_ON, led, line_of
from sevenball.text_items import integer_in, items_of
from sevenball.words import Word

SIGNED_AXES = (-3, -2, -1, 1, 2, 3)


class Quarter:
    """The quarter turn by which the three integers tell which old number stands where."""

    def __init__(self, x, y, z):
        if not can_stand(x, ()):
            raise BadTurn("x")
        if not can_stand(y, (x,)):
            raise BadTurn("y")
        if not can_stand(z, (x, y)):
            raise BadTurn("z")
        if is_mirror(x, y, z):
            raise BadTurn("quarter")
        self.x = x
        self.y = y
        self.z = z

    @staticmethod
    def every():
        """All 24 quarter turns, ascending."""
        return tuple([
            Quarter(x, y, z)
            for x in SIGNED_AXES
            for y in SIGNED_AXES if can_stand(y, (x,))
            for z in SIGNED_AXES if can_stand(z, (x, y)) and not is_mirror(x, y, z)
        ])

    @staticmethod
    def read(text):
        """The quarter turn with this text."""
        return quarter_in(items_of(text), 0)

    def __str__(self):
        return f"{self.x} {self.y} {self.z}"

    def __eq__(self, other):
        return (
            isinstance(other, Quarter)
            and self.x == other.x
            and self.y == other.y
            and self.z == other.z
        )

    def __mul__(self, other):
        if not isinstance(other, Quarter):
            raise BadTurn("other")
        x, y, z = self.arranged(other.x, other.y, other.z)
        return Quarter(x, y, z)

    def __invert__(self):
        places = [0, 0, 0]
        for at, number in enumerate((self.x, self.y, self.z)):
            places[abs(number) - 1] = at + 1 if number > 0 else -at - 1
        return Quarter(places[0], places[1], places[2])

    def arranged(self, x, y, z):
        """The three numbers to which three numbers are led, a tuple."""
        old = (x, y, z)
        return tuple([
            old[number - 1] if number > 0 else -old[-number - 1]
            for number in (self.x, self.y, self.z)
        ])

    def letter_to(self, letter):
        """The letter to which the quarter turn renames one."""
        if not is_letter(letter):
            raise BadLetter(letter)
        # A letter leads the point (1, 0, 0) to its own line.
        x, y, z = led(letter, 1, 0, 0)
        x, y, z = self.arranged(x, y, z)
        return LETTER_ON[line_of(x, y, z)]

    def renamed(self, letters):
        """A row of letters, however many, each of them renamed."""
        names = {}
        for letter in letters:
            if letter not in names:
                names[letter] = self.letter_to(letter)
        return "".join([names[letter] for letter in letters])

    def word_to(self, word):
        """The renamed word."""
        if not isinstance(word, Word):
            raise BadWord(0)
        return Word(self.renamed(word.letters))

    def point_to(self, point):
        """The point to which the quarter turn leads one."""
        if not isinstance(point, Point):
            raise BadPoint("point")
        x, y, z = self.arranged(point.x, point.y, point.z)
        return Point(x, y, z, point.under)


def can_stand(value, earlier):
    """Whether any value tells an axis, and another one than the earlier integers."""
    if not is_integer(value) or value not in SIGNED_AXES:
        return False
    return value not in earlier and -value not in earlier


def is_mirror(x, y, z):
    """Whether three integers that tell three axes have the determinant -1."""
    order = (abs(y) - abs(x)) * (abs(z) - abs(x)) * (abs(z) - abs(y))
    return x * y * z * order < 0


def quarter_in(items, first):
    """The quarter turn of the three items from the index first on, behind which none stands."""
    numbers = []
    for at in range(first, first + 3):
        number = integer_in(items[at], 1) if at < len(items) else None
        if not can_stand(number, numbers):
            raise BadText(at)
        numbers.append(number)
    if is_mirror(numbers[0], numbers[1], numbers[2]):
        raise BadText(first + 2)
    if len(items) > first + 3:
        raise BadText(first + 3)
    return Quarter(numbers[0], numbers[1], numbers[2])
