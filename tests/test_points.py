import itertools
import unittest
from fractions import Fraction

from sevenball.errors import BadNumber, BadPoint, BadText, BadWord, TooMany
from sevenball.points import Point, steps, way
from sevenball.words import Word, words_of
from tests.values import HUGE, NOT_INTEGERS, NOT_POINTS, NOT_STRINGS, NOT_WORDS, Case

# The table of the document, as its words: the three numbers times 7.
TABLE = {
    "A": lambda x, y, z: (3*x - 2*y + 6*z, 6*x + 3*y - 2*z, -2*x + 6*y + 3*z),
    "B": lambda x, y, z: (3*x + 2*y - 6*z, -6*x + 3*y - 2*z, 2*x + 6*y + 3*z),
    "C": lambda x, y, z: (3*x + 2*y + 6*z, -6*x + 3*y + 2*z, -2*x - 6*y + 3*z),
    "D": lambda x, y, z: (3*x - 2*y - 6*z, 6*x + 3*y + 2*z, 2*x - 6*y + 3*z),
    "a": lambda x, y, z: (3*x + 6*y - 2*z, -2*x + 3*y + 6*z, 6*x - 2*y + 3*z),
    "b": lambda x, y, z: (3*x - 6*y + 2*z, 2*x + 3*y + 6*z, -6*x - 2*y + 3*z),
    "c": lambda x, y, z: (3*x - 6*y - 2*z, 2*x + 3*y - 6*z, 6*x + 2*y + 3*z),
    "d": lambda x, y, z: (3*x + 6*y + 2*z, -2*x + 3*y - 6*z, -6*x + 2*y + 3*z),
}
LINES = {
    "A": (1, 2, 4), "B": (1, 5, 3), "C": (1, 5, 4), "D": (1, 2, 3),
    "a": (1, 4, 2), "b": (1, 3, 5), "c": (1, 3, 2), "d": (1, 4, 5),
}
BARE = [
    Point(1, 0, 0), Point(0, -1, 0), Point(0, 0, 5, 3), Point(1, 2, 2, 3), Point(0, -3, 4, 5),
    Point(-2, 6, 9, 11), Point(2, -14, 23, 27), Point(4, 4, -7, 7 * 9), Point(7, 14, 14),
]
LONGEST = Word("ABcD" * 1000)
TOO_LONG = TooMany("letters", 4000)


def numbers(point):
    return tuple(Fraction(value, point.under) for value in (point.x, point.y, point.z))


def turned(letters, triple):
    """Turns three fractions by letters, the last one first."""
    for letter in reversed(letters):
        triple = tuple(value / 7 for value in TABLE[letter](*triple))
    return triple


class Making(Case):
    def test_lowest_terms(self):
        for x, y, z, under, told in (
            (12, 4, 6, 14, (6, 2, 3, 7)), (6, 2, 3, 1, (6, 2, 3, 1)), (0, -14, 0, 6, (0, -7, 0, 3)),
            (0, 0, -5, 5, (0, 0, -1, 1)), (7, 0, 0, 49, (1, 0, 0, 7)),
            (6 * HUGE, 2 * HUGE, -3 * HUGE, 7 * HUGE, (6, 2, -3, 7)), (HUGE, 0, 0, 1, (HUGE, 0, 0, 1)),
        ):
            point = Point(x, y, z, under)
            self.assertEqual((point.x, point.y, point.z, point.under), told)
            self.assertEqual(Point(under=under, z=z, y=y, x=x), point)

    def test_radius_and_share(self):
        for point, radius, share in (
            (Point(6, 2, 3, 7), (1, 1), (6, 2, 3, 7)), (Point(6, 2, 3), (7, 1), (6, 2, 3, 7)),
            (Point(0, -14, 0, 6), (7, 3), (0, -1, 0, 1)), (Point(1, 0, 0, 7), (1, 7), (1, 0, 0, 1)),
            (Point(2, 4, 4, 9), (2, 3), (1, 2, 2, 3)), (Point(-30, 10, 15, 21), (5, 3), (-6, 2, 3, 7)),
        ):
            self.assertEqual(point.radius, radius)
            self.assertEqual(point.share, share)
            self.assertIs(type(point.radius), tuple)
            self.assertIs(type(point.share), tuple)

    def test_what_is_no_integer(self):
        for value in NOT_INTEGERS:
            self.refuses(BadPoint("x"), Point, value, 0, 0)
            self.refuses(BadPoint("y"), Point, 1, value, 0)
            self.refuses(BadPoint("z"), Point, 1, 0, value)
            self.refuses(BadPoint("under"), Point, 1, 0, 0, value)
        for value in (0, -1, -HUGE):
            self.refuses(BadPoint("under"), Point, 1, 0, 0, value)

    def test_several_faults(self):
        self.refuses(BadPoint("x"), Point, None, None, None, None)
        self.refuses(BadPoint("y"), Point, 1, "1", True, 0)
        self.refuses(BadPoint("z"), Point, 1, 1, [], 0)
        self.refuses(BadPoint("under"), Point, 1, 1, 1, 0)

    def test_no_radius(self):
        for x, y, z in ((1, 1, 1), (0, 0, 0), (1, 1, 0), (6, 2, 4), (HUGE, 1, 0), (10 ** 399, 10 ** 399, 1)):
            for under in (1, 7, HUGE):
                self.refuses(BadPoint("radius"), Point, x, y, z, under)
        self.assertEqual(Point(6, 2, 3).radius, (7, 1))
        self.assertEqual(Point(10 ** 399, 0, 0, 10 ** 398).radius, (10, 1))

    def test_equality(self):
        self.assertEqual(Point(12, 4, 6, 14), Point(6, 2, 3, 7))
        for other in (Point(6, 2, 3), Point(2, 6, 3, 7), Point(6, 3, 2, 7), Point(6, 2, -3, 7), *NOT_POINTS):
            self.assertIs(Point(6, 2, 3, 7) == other, False)
            self.assertIs(Point(6, 2, 3, 7) != other, True)
        self.assertIs(Point(6, 2, 3, 7) == (6, 2, 3, 7), False)


class Turning(Case):
    def test_each_letter(self):
        for point in BARE + [Point(6, 2, 3, 7), Point(33, -4, -36, 49), Point(14, 21, 18)]:
            for letter in "ABCDabcd":
                told = point.turned(Word(letter))
                self.assertEqual(numbers(told), turned(letter, numbers(point)))
                self.assertEqual(told.radius, point.radius)

    def test_words(self):
        for bare in BARE:
            for word in [*words_of(0), *words_of(1), *words_of(2), Word("ABcD" * 5), Word("aaBB")]:
                point = bare.turned(word=word)
                self.assertEqual(numbers(point), turned(word.letters, numbers(bare)))
                self.assertEqual(point.word, word)
                self.assertEqual(point.height, len(word))
                self.assertEqual(point.bare, bare)
                self.assertEqual(point.turned(~word), bare)
                if word == Word():
                    self.assertEqual([point.line, point.letter], [None, None])
                else:
                    self.assertEqual([point.line, point.letter], [LINES[word[0]], word[0]])

    def test_words_on_points_that_are_not_bare(self):
        words = [Word(letters) for letters in ("", "A", "BA", "ab", "cDc", "baC", "AAAA", "bABd")]
        for bare, one, other in itertools.product(BARE[:4], words, words):
            point = bare.turned(one).turned(other)
            self.assertEqual(point, bare.turned(other * one))
            self.assertEqual(point.word, other * one)
            self.assertEqual(point.bare, bare)

    def test_heights(self):
        point = self.comes_soon(lambda: Point(1, 0, 0).turned(LONGEST))
        self.assertEqual(point.height, 4000)
        self.assertEqual(self.comes_soon(lambda: point.word), LONGEST)
        self.assertEqual(point.bare, Point(1, 0, 0))
        for letter in "ABCDbcd":
            self.refuses(TOO_LONG, point.turned, Word(letter))
        self.assertEqual(point.turned(Word("a")).height, 3999)
        self.assertEqual(point.turned(Word("B")[:0]), point)
        self.assertEqual(self.comes_soon(lambda: point.turned(~LONGEST)), Point(1, 0, 0))
        self.refuses(TOO_LONG, point.turned, LONGEST)
        self.refuses(BadWord(0), point.turned, "A")
        self.assertEqual((-point).word, LONGEST)

    def test_what_is_no_word(self):
        for value in NOT_WORDS:
            self.refuses(BadWord(0), Point(6, 2, 3, 7).turned, value)

    def test_stretched(self):
        point = Point(33, -4, -36, 49)
        for over, under in ((1, 1), (7, 1), (49, 2), (2, 49), (HUGE, 3), (5, HUGE)):
            told = point.stretched(over, under)
            self.assertEqual(numbers(told), tuple(value * over / under for value in numbers(point)))
            self.assertEqual([told.word, told.height, told.line], [point.word, 2, (1, 2, 4)])
            self.assertEqual(told, point.stretched(under=under, over=over))
        self.assertEqual(point.stretched(3), point.stretched(3, 1))
        for value in (*NOT_INTEGERS, 0, -1, -HUGE):
            self.refuses(BadNumber("over"), point.stretched, value)
            self.refuses(BadNumber("over"), point.stretched, value, value)
            self.refuses(BadNumber("under"), point.stretched, 1, value)

    def test_opposite(self):
        for point in BARE + [Point(33, -4, -36, 49)]:
            self.assertEqual(numbers(-point), tuple(-value for value in numbers(point)))
            self.assertEqual((-point).word, point.word)
            self.assertEqual((-point).bare, -point.bare)
            self.assertEqual(-(-point), point)

    def test_nothing_changes(self):
        point, word = Point(33, -4, -36, 49), Word("aB")
        before = (str(point), point.radius, point.share, point.height, point.line, point.letter)
        point.turned(word), point.stretched(3), -point, steps(point), point.word, point.bare
        way(point, Point(1, 0, 0))
        self.assertEqual((str(point), point.radius, point.share, point.height, point.line, point.letter), before)
        self.assertEqual(word, Word("aB"))


    def test_no_word_is_put_into_a_point(self):
        point = Point(33, -4, -36, 49)
        with self.assertRaises(AttributeError):
            point.word = Word("C")
        self.assertEqual([point.word, str(point.bare)], [Word("AB"), "1 0 0"])


class Steps(Case):
    def test_steps(self):
        for bare in BARE:
            self.assertEqual(steps(bare), (bare,))
            for letters in ("A", "AB", "cDDa"):
                wanted = tuple(bare.turned(Word(letters[at:])) for at in range(len(letters) + 1))
                self.assertEqual(steps(point=bare.turned(Word(letters))), wanted)
        self.assertIs(type(steps(BARE[0])), tuple)
        for value in NOT_POINTS:
            self.refuses(BadPoint("point"), steps, value)

    def test_many_steps(self):
        told = self.comes_soon(lambda: steps(Point(2, -14, 23, 27).turned(LONGEST)))
        self.assertEqual(len(told), 4001)
        self.assertEqual([point.height for point in told], list(range(4000, -1, -1)))
        self.assertEqual(told[-1], Point(2, -14, 23, 27))

    def test_points_with_more_letters_than_a_word_has(self):
        tall = Point(1, 0, 0).turned(LONGEST)
        taller = Point(*TABLE["C"](tall.x, tall.y, tall.z), tall.under * 7)
        self.assertEqual([taller.height, taller.letter, taller.bare], [4001, "C", Point(1, 0, 0)])
        self.refuses(TOO_LONG, lambda: taller.word)
        self.assertEqual(taller.turned(Word("c")), tall)
        self.refuses(TOO_LONG, taller.turned, Word())
        self.assertEqual([way(tall, taller), way(taller, tall)], [Word("C"), Word("c")])
        self.assertEqual(steps(taller)[:2], (taller, tall))
        self.assertEqual((-taller).height, taller.stretched(3).height)

    def test_ways(self):
        words = [Word(letters) for letters in ("", "A", "AB", "Cd", "AAd")]
        for bare, one, other in itertools.product(BARE, words, words):
            start, end = bare.turned(one), bare.turned(other)
            self.assertEqual(way(start, end), other * ~one)
            self.assertEqual(start.turned(way(one=start, other=end)), end)
            for goal in (-end, end.stretched(2), end.stretched(7), Point(3, 4, 0, 5).turned(one)):
                self.assertIsNone(way(start, goal))
        for value in NOT_POINTS:
            self.refuses(BadPoint("one"), way, value, value)
            self.refuses(BadPoint("other"), way, BARE[0], value)

    def test_long_ways(self):
        bare = Point(1, 0, 0)
        one, other = bare.turned(Word("A" * 2000)), bare.turned(Word("B" * 2000))
        self.assertEqual(way(one, other), Word("B" * 2000 + "a" * 2000))
        self.refuses(TOO_LONG, way, one, other.turned(Word("B")))
        self.assertIsNone(way(one, other.turned(Word("B")).stretched(2)))
        tall, taller = bare.turned(LONGEST), bare.turned(Word("d") * LONGEST[1:])
        self.assertEqual(self.comes_soon(lambda: way(tall, taller)), Word("da"))
        self.refuses(TOO_LONG, way, tall, bare.turned(Word("d" * 4000)))


class Texts(Case):
    def test_there_and_back(self):
        for point in BARE + [Point(6, 2, 3, 7), Point(33, -4, -36, 49), Point(1, 0, 0, HUGE), Point(0, HUGE, 0, 2)]:
            self.assertEqual(Point.read(str(point)), point)
        self.assertEqual(str(Point(-12, 4, 6, 14)), "-6 2 3 / 7")
        self.assertEqual(str(Point(-12, 4, 6, 2)), "-6 2 3")
        self.assertEqual(Point.read(text="0 0 -1"), Point(0, 0, -1))

    def test_bent_items(self):
        items = ["6", "2", "-3", "/", "7"]
        for at in (0, 1, 2, 4):
            for item in ("", "x", "+3", "03", "-0", "00", "3.0", "--3", "-", "1_0", "\u0663", "\u00b2", "3\n", "/", "3-"):
                self.refuses(BadText(at), Point.read, " ".join(items[:at] + [item] + items[at + 1:]))
        for item in ("", "x", "7", "//", "-", "\\"):
            self.refuses(BadText(3), Point.read, " ".join(items[:3] + [item] + items[4:]))
        for at in (1, 2, 4):
            self.refuses(BadText(at), Point.read, " ".join(items[:at]))

    def test_items_put_in_doubled_and_lacking(self):
        for text, item in (
            ("", 0), (" ", 0), ("6", 1), ("6 2", 2), ("6 2 3 ", 3), (" 6 2 3", 0), ("6  2 3", 1), ("6 2 2 3", 2),
            ("6 2 3 3", 3), ("6 2 3 / / 7", 4), ("6 2 3 / 7 7", 5), ("6 2 3 / 7 ", 5), ("6 2 3 7", 3), ("6 2 3 / x x", 4),
            ("6 2 / 7", 2), ("2 3 / 7", 2), ("x 2 3 y 7", 0), ("6 2 3 /", 4), ("6 2 3 / 1", 4), ("6 2 3 / 0", 4),
            ("6 2 3 / -7", 4),
        ):
            self.refuses(BadText(item), Point.read, text)
        for value in NOT_STRINGS:
            self.refuses(BadText(0), Point.read, value)

    def test_numbers_that_make_no_point(self):
        for text, item in (
            ("1 1 1", 2), ("1 1 1 / 2", 2), ("0 0 0", 2), ("0 0 0 / 5", 2), ("6 2 4 x", 2),
            ("12 4 6 / 14", 4), ("7 0 0 / 7", 4), ("0 -14 0 / 6", 4),
        ):
            self.refuses(BadText(item), Point.read, text)

    def test_long_integers(self):
        for digits in ("1" + "0" * 2999, "9" * 3000):
            self.assertEqual(Point.read(f"{digits} 0 0").x, int(digits))
            self.assertEqual(Point.read(f"0 -{digits} 0").y, -int(digits))
            self.assertEqual(Point.read(f"0 0 1 / {digits}").under, int(digits))
            self.refuses(BadText(0), Point.read, f"{digits}0 0 0")
            self.refuses(BadText(1), Point.read, f"0 -{digits}0 0")
            self.refuses(BadText(2), Point.read, f"0 0 {digits}0")
            self.refuses(BadText(4), Point.read, f"0 0 1 / {digits}0")
        self.refuses(BadText(0), Point.read, "1" * 100000 + " 0 0")
        tall = Point(1, 0, 0).turned(LONGEST)
        self.assertEqual(len(str(tall).split(" ")), 5)


if __name__ == "__main__":
    unittest.main()
