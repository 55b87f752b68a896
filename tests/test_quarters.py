import itertools
import unittest

from sevenball.errors import BadLetter, BadPoint, BadText, BadTurn, BadWord
from sevenball.points import Point
from sevenball.quarters import Quarter
from sevenball.words import Word
from tests.values import HUGE, NOT_INTEGERS, NOT_POINTS, NOT_STRINGS, NOT_TURNS, NOT_WORDS, Case

AXES = (-3, -2, -1, 1, 2, 3)
UNIT = Quarter(1, 2, 3)


def matrix(numbers):
    """The rows of three integers that tell axes."""
    return [[(abs(n) == at) * (1 if n > 0 else -1) for at in (1, 2, 3)] for n in numbers]


def determinant(rows):
    (a, b, c), (d, e, f), (g, h, i) = rows
    return a * (e * i - f * h) - b * (d * i - f * g) + c * (d * h - e * g)


RIGHT = [row for row in itertools.product(AXES, repeat=3) if determinant(matrix(row)) == 1]


class Making(Case):
    def test_all_of_them(self):
        every = Quarter.every()
        self.assertIs(type(every), tuple)
        self.assertEqual(len(RIGHT), 24)
        self.assertEqual([(one.x, one.y, one.z) for one in every], RIGHT)
        for x, y, z in RIGHT:
            self.assertEqual(str(Quarter(z=z, y=y, x=x)), f"{x} {y} {z}")

    def test_refusals(self):
        for x, y, z in itertools.product(range(-4, 5), repeat=3):
            if x not in AXES:
                error = BadTurn("x")
            elif y not in AXES or abs(y) == abs(x):
                error = BadTurn("y")
            elif z not in AXES or abs(z) in (abs(x), abs(y)):
                error = BadTurn("z")
            elif (x, y, z) not in RIGHT:
                error = BadTurn("quarter")
            else:
                continue
            self.refuses(error, Quarter, x, y, z)

    def test_other_values(self):
        for value in (*NOT_INTEGERS, 0, 4, HUGE, -HUGE):
            self.refuses(BadTurn("x"), Quarter, value, value, value)
            self.refuses(BadTurn("y"), Quarter, 1, value, value)
            self.refuses(BadTurn("z"), Quarter, 1, 2, value)

    def test_equality(self):
        every = Quarter.every()
        for (at, one), (to, other) in itertools.product(enumerate(every), enumerate(Quarter.every())):
            self.assertIs(one == other, at == to)
            self.assertIs(one != other, at != to)
        for value in NOT_TURNS:
            self.assertIs(UNIT == value, False)
            self.assertIs(value == UNIT, False)


class Leading(Case):
    def test_points(self):
        for quarter in Quarter.every():
            for point in (Point(6, 2, -3, 7), Point(33, -4, -36, 98), Point(0, -5, 0)):
                old = (None, point.x, point.y, point.z)
                new = [old[n] if n > 0 else -old[-n] for n in (quarter.x, quarter.y, quarter.z)]
                self.assertEqual(quarter.point_to(point=point), Point(*new, point.under))
                self.assertEqual(quarter.point_to(point).radius, point.radius)
        for value in NOT_POINTS:
            self.refuses(BadPoint("point"), UNIT.point_to, value)

    def test_products_and_undoings(self):
        point = Point(6, 2, -3, 7)
        for one, other in itertools.product(Quarter.every(), Quarter.every()):
            self.assertEqual((one * other).point_to(point), one.point_to(other.point_to(point)))
        for quarter in Quarter.every():
            self.assertEqual(quarter * ~quarter, UNIT)
            self.assertEqual(~quarter * quarter, UNIT)
            self.assertEqual(UNIT * quarter, quarter)
            self.assertEqual(~~quarter, quarter)
        for value in NOT_TURNS:
            self.refuses(BadTurn("other"), lambda: UNIT * value)

    def test_renaming(self):
        points = [Point(1, 0, 0), Point(1, 2, 2, 3)]
        for quarter in Quarter.every():
            names = [quarter.letter_to(letter=letter) for letter in "ABCDabcd"]
            self.assertEqual(sorted(names), list("ABCDabcd"))
            for letter, name, point in itertools.product("ABCDabcd", names, points):
                renamed = quarter.letter_to(letter)
                self.assertEqual(quarter.letter_to(letter.swapcase()), renamed.swapcase())
                # A letter and then the quarter turn is the quarter turn and then the renamed letter.
                led = quarter.point_to(point.turned(Word(letter)))
                self.assertEqual(led == quarter.point_to(point).turned(Word(name)), name == renamed)
            word = Word("ABcdAAb")
            self.assertEqual(quarter.word_to(word=word).letters, "".join(map(quarter.letter_to, "ABcdAAb")))
            self.assertEqual((~quarter).word_to(quarter.word_to(word)), word)
            self.assertEqual(quarter.word_to(Word()), Word())
        self.assertEqual(len(Quarter(2, -1, 3).word_to(Word("AB" * 2000))), 4000)
        self.assertEqual(word, Word("ABcdAAb"))

    def test_what_is_no_letter_or_word(self):
        for value in [*NOT_STRINGS, "", "AB", "E", "-"]:
            with self.assertRaises(BadLetter) as caught:
                UNIT.letter_to(value)
            self.assertIs(caught.exception.value, value)
        for value in NOT_WORDS:
            self.refuses(BadWord(0), UNIT.word_to, value)


class Texts(Case):
    def test_there_and_back(self):
        for quarter in Quarter.every():
            self.assertEqual(Quarter.read(text=str(quarter)), quarter)
        self.assertEqual(str(Quarter(2, -1, 3)), "2 -1 3")

    def test_all_numbers(self):
        for x, y, z in itertools.product(range(-4, 5), repeat=3):
            if x not in AXES:
                item = 0
            elif y not in AXES or abs(y) == abs(x):
                item = 1
            elif (x, y, z) not in RIGHT:
                item = 2
            else:
                continue
            self.refuses(BadText(item), Quarter.read, f"{x} {y} {z}")

    def test_bent_texts(self):
        for item in ("", "x", "+1", "01", "-0", "1.0", "--1", "-", "11", "\u0661", "\u00b9", "\n"):
            self.refuses(BadText(0), Quarter.read, f"{item} 2 3")
            self.refuses(BadText(1), Quarter.read, f"1 {item} 3")
            self.refuses(BadText(2), Quarter.read, f"1 2 {item}")
            self.refuses(BadText(3), Quarter.read, f"1 2 3 {item}")
        for text, item in (
            ("1", 1), ("1 2", 2), ("1 2 3 ", 3), (" 1 2 3", 0), ("1  2 3", 1), ("2 1 3 4", 2), ("1 2 3 4 5", 3),
            ("1 -1", 1), ("", 0),
        ):
            self.refuses(BadText(item), Quarter.read, text)
        for value in NOT_STRINGS:
            self.refuses(BadText(0), Quarter.read, value)


if __name__ == "__main__":
    unittest.main()
