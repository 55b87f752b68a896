"""Points in rows: those of radius 1 with a told integer below, and those around a bare one."""

from math import gcd, isqrt

from sevenball.checks import is_within
from sevenball.errors import BadNumber, BadPoint
from sevenball.points import Point
from sevenball.words import words_of

MOST_UNDER = 49
MOST_AWAY = 3


def points_of(many):
    """All points of radius 1 with the under many, ascending."""
    if not is_within(many, 1, MOST_UNDER):
        raise BadNumber("many")
    found = []
    for x in range(-many, many + 1):
        for y in range(-many, many + 1):
            for z in last_numbers(many * many - x * x - y * y):
                if gcd(x, y, z, many) == 1:
                    found.append(Point(x, y, z, many))
    return tuple(found)


def last_numbers(square):
    """The integers with this square, ascending."""
    if square < 0:
        return ()
    root = isqrt(square)
    if root * root != square:
        return ()
    if root == 0:
        return (0,)
    return (-root, root)


def shell(bare, many):
    """The points w of a bare point of all words w with so many letters, ascending by the words."""
    if not isinstance(bare, Point) or bare.height > 0:
        raise BadPoint("bare")
    if not is_within(many, 0, MOST_AWAY):
        raise BadNumber("many")
    for word in words_of(many):
        yield bare.turned(word)
