"""Points: three fractions at a distance from the middle that is a fraction above 0."""

from math import gcd, isqrt

from sevenball.checks import is_integer
from sevenball.errors import BadNumber, BadPoint, BadText, BadWord, TooMany
from sevenball.letter_rows import MOST_LETTERS, joined, undone
from sevenball.sevens import LETTER_ON, led, led_on, line_of, power_of_seven, read_off, sevens_in
from sevenball.text_items import integer_in, items_of
from sevenball.words import Word

MOST_DIGITS = 3000


class Point:
    """The point (x / under, y / under, z / under)."""

    def __init__(self, x, y, z, under=1):
        if not is_integer(x):
            raise BadPoint("x")
        if not is_integer(y):
            raise BadPoint("y")
        if not is_integer(z):
            raise BadPoint("z")
        if not is_integer(under) or under < 1:
            raise BadPoint("under")
        root = root_of(x, y, z)
        if root is None:
            raise BadPoint("radius")
        common = gcd(x, y, z, under)
        self.x = x // common
        self.y = y // common
        self.z = z // common
        self.under = under // common
        common = gcd(root, under)
        self.radius = (root // common, under // common)
        common = gcd(x, y, z)
        self.share = (x // common, y // common, z // common, root // common)
        self.height = sevens_in(self.share[3])
        self.line = None
        self.letter = None
        if self.height > 0:
            self.line = line_of(self.share[0], self.share[1], self.share[2])
            self.letter = LETTER_ON[self.line]
        self._descent = None

    @property
    def descent(self):
        """The letters of the word, however many, and the share of the bare point."""
        if self._descent is None:
            self._descent = read_off(self.share)
        return self._descent

    @property
    def word(self):
        """The word of the point."""
        return Word(self.descent[0])

    @word.setter
    def word(self, value):
        # Other classes assign an attribute of this name, so the property has a setter; a point never changes.
        raise AttributeError("the word of a point is not assigned")

    @property
    def bare(self):
        """The bare point of the point."""
        x, y, z, under = self.descent[1]
        over, below = self.radius
        return Point(x * over, y * over, z * over, under * below)

    @staticmethod
    def read(text):
        """The point with this text."""
        items = items_of(text)
        numbers = leading_numbers(items)
        if len(items) == 3:
            return Point(numbers[0], numbers[1], numbers[2])
        if items[3] != "/":
            raise BadText(3)
        under = integer_in(items[4], MOST_DIGITS) if len(items) > 4 else None
        if under is None or under < 2 or gcd(numbers[0], numbers[1], numbers[2], under) > 1:
            raise BadText(4)
        if len(items) > 5:
            raise BadText(5)
        return Point(numbers[0], numbers[1], numbers[2], under)

    def __str__(self):
        if self.under == 1:
            return f"{self.x} {self.y} {self.z}"
        return f"{self.x} {self.y} {self.z} / {self.under}"

    def __eq__(self, other):
        return (
            isinstance(other, Point)
            and self.x == other.x
            and self.y == other.y
            and self.z == other.z
            and self.under == other.under
        )

    def __neg__(self):
        return Point(-self.x, -self.y, -self.z, self.under)

    def turned(self, word):
        """The point to which a word turns this one."""
        if not isinstance(word, Word):
            raise BadWord(0)
        x, y, z = led_on(word.letters, self.x, self.y, self.z)
        point = Point(x, y, z, self.under * power_of_seven(len(word)))
        if point.height > MOST_LETTERS:
            raise TooMany("letters", MOST_LETTERS)
        return point

    def stretched(self, over, under=1):
        """The point with all three numbers times over / under."""
        if not is_integer(over) or over < 1:
            raise BadNumber("over")
        if not is_integer(under) or under < 1:
            raise BadNumber("under")
        return Point(self.x * over, self.y * over, self.z * over, self.under * under)


def root_of(x, y, z):
    """The integer above 0 to whose square the three squares add up, None if there is none."""
    total = x * x + y * y + z * z
    root = isqrt(total)
    if root == 0 or root * root != total:
        return None
    return root


def leading_numbers(items):
    """The three integers with which the items of a point's text begin."""
    numbers = []
    for at in range(3):
        number = integer_in(items[at], MOST_DIGITS) if at < len(items) else None
        if number is None:
            raise BadText(at)
        numbers.append(number)
    if root_of(numbers[0], numbers[1], numbers[2]) is None:
        raise BadText(2)
    return numbers


def steps(point):
    """The points from a point down to its bare one, each led on by the undoing of its letter."""
    if not isinstance(point, Point):
        raise BadPoint("point")
    met = [point]
    while met[-1].height > 0:
        last = met[-1]
        x, y, z = led(last.letter.swapcase(), last.x, last.y, last.z)
        met.append(Point(x, y, z, last.under * 7))
    return tuple(met)


def way(one, other):
    """The word with which other is the word of one, None if there is none."""
    if not isinstance(one, Point):
        raise BadPoint("one")
    if not isinstance(other, Point):
        raise BadPoint("other")
    if one.bare != other.bare:
        return None
    return Word(joined(other.descent[0], undone(one.descent[0])))
