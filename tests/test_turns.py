import itertools
import unittest

from sevenball.errors import BadNumber, BadPoint, BadText, BadTurn, BadWord, TooMany
from sevenball.points import Point
from sevenball.quarters import Quarter
from sevenball.shells import points_of
from sevenball.turns import Turn, fixed_points, turns_between
from sevenball.words import Word, words_of
from tests.values import HUGE, NOT_INTEGERS, NOT_POINTS, NOT_STRINGS, NOT_TURNS, NOT_WORDS, Case

UNIT = Turn(Word())
EVERY = Quarter.every()
WORDS = [Word(letters) for letters in ("", "A", "b", "AB", "aD", "Ca", "ABcd", "BAb", "DDD")]
SOME = [Turn(word, quarter) for word in WORDS for quarter in EVERY[::5]]
POINTS = [Point(1, 0, 0), Point(0, 3, 4, 5), Point(6, 2, 3, 7), Point(33, -4, -36, 98), Point(1, -2, 2)]
LONGEST = Word("ABcD" * 1000)
TOO_LONG = TooMany("letters", 4000)


def led(rows, under, point):
    numbers = (point.x, point.y, point.z)
    return Point(*[sum(a * b for a, b in zip(row, numbers)) for row in rows], point.under * under)


def transposed(rows):
    return tuple(zip(*rows))


class Making(Case):
    def test_matrix(self):
        for turn in SOME:
            self.assertEqual(turn.under, 7 ** len(turn.word))
            self.assertIs(type(turn.rows), tuple)
            self.assertEqual([type(row) for row in turn.rows], [tuple] * 3)
            for point in POINTS:
                told = turn.quarter.point_to(point).turned(turn.word)
                self.assertEqual(led(turn.rows, turn.under, point), told)
                self.assertEqual(turn(point), told)
                self.assertEqual(turn(point=point), told)

    def test_the_word_is_not_assigned(self):
        turn = Turn(word=Word("AB"))
        with self.assertRaises(AttributeError):
            turn.word = Word("C")
        self.assertEqual(turn.word, Word("AB"))
        self.assertEqual((turn * turn).word, Word("ABAB"))
        self.assertEqual((~turn).word, Word("ba"))

    def test_quarter_may_be_left_out(self):
        self.assertEqual(Turn(Word("A")).quarter, Quarter(1, 2, 3))
        self.assertEqual(Turn(Word("A"), None), Turn(quarter=Quarter(1, 2, 3), word=Word("A")))
        self.assertEqual(UNIT.rows, ((1, 0, 0), (0, 1, 0), (0, 0, 1)))
        self.assertEqual(UNIT.under, 1)

    def test_refusals(self):
        for value in NOT_WORDS:
            self.refuses(BadWord(0), Turn, value)
            self.refuses(BadWord(0), Turn, value, value or 5)
        for value in [*NOT_TURNS, UNIT]:
            if value is not None:
                self.refuses(BadTurn("quarter"), Turn, Word("A"), value)

    def test_equality(self):
        for (at, one), (to, other) in itertools.product(enumerate(SOME), enumerate(SOME)):
            same = (one.word, one.quarter) == (other.word, other.quarter)
            self.assertIs(one == other, same)
            self.assertIs(one != other, not same)
        for value in [*NOT_TURNS, Quarter(1, 2, 3)]:
            self.assertIs(UNIT == value, False)
            self.assertIs(value == UNIT, False)


class Of(Case):
    def test_there_and_back(self):
        for turn in SOME:
            self.assertEqual(Turn.of(turn.rows, turn.under), turn)
            self.assertEqual(Turn.of([list(row) for row in turn.rows], under=turn.under), turn)
            for factor in (2, 7, 21, HUGE):
                rows = [[factor * number for number in row] for row in turn.rows]
                self.assertEqual(Turn.of(under=factor * turn.under, rows=rows), turn)
                self.assertEqual(rows[0][0], factor * turn.rows[0][0])
        for quarter in EVERY:
            turn = Turn(Word(), quarter)
            self.assertEqual(Turn.of(turn.rows), turn)

    def test_what_are_no_rows(self):
        right = ((1, 0, 0), (0, 1, 0), (0, 0, 1))
        for value in [*NOT_TURNS, *NOT_POINTS, Quarter(1, 2, 3), right[:2], right + right[:1], list(right[0])]:
            self.refuses(BadTurn("rows"), Turn.of, value)
            self.refuses(BadTurn("rows"), Turn.of, value, 0)
        for at, value in itertools.product(range(3), [None, 1, "100", (1, 0), (1, 0, 0, 0), {}, {0: 1}, "", []]):
            rows = list(right)
            rows[at] = value
            self.refuses(BadTurn("rows"), Turn.of, rows, 0)
        for at, to, value in itertools.product(range(3), range(3), NOT_INTEGERS):
            rows = [list(row) for row in right]
            rows[at][to] = value
            self.refuses(BadTurn("rows"), Turn.of, rows, None)

    def test_wrong_unders(self):
        for value in (*NOT_INTEGERS, 0, -1, -HUGE):
            self.refuses(BadTurn("under"), Turn.of, ((1, 0, 0), (0, 1, 0), (0, 0, 1)), value)
            self.refuses(BadTurn("under"), Turn.of, ((1, 0, 0), (0, 1, 0), (0, 0, 5)), value)

    def test_no_rotations(self):
        t = Turn(Word("AB"))
        for rows, under in (
            (((0, 0, 0), (0, 0, 0), (0, 0, 0)), 1), (((1, 0, 0), (0, 1, 0), (0, 0, 1)), 7),
            (((1, 0, 0), (0, 1, 0), (0, 0, 2)), 1), (((1, 0, 0), (0, 1, 0), (0, 1, 0)), 1),
            (((1, 1, 0), (0, 1, 0), (0, 0, 1)), 1), (t.rows, 7), (t.rows, 48), (t.rows, 343),
            ((t.rows[0], t.rows[1], t.rows[0]), 49), ((t.rows[1], t.rows[0], t.rows[2]), 49),
            (((0, 1, 0), (1, 0, 0), (0, 0, 1)), 1), (((-1, 0, 0), (0, -1, 0), (0, 0, -1)), 1),
        ):
            self.refuses(BadTurn("turn"), Turn.of, rows, under)
        for turn in SOME:
            mirror = [[-number for number in row] for row in turn.rows]
            self.refuses(BadTurn("turn"), Turn.of, mirror, turn.under)
            bent = [list(row) for row in turn.rows]
            bent[2][1] += 1
            self.refuses(BadTurn("turn"), Turn.of, bent, turn.under)

    def test_other_primes_below(self):
        five = ((3, 4, 0), (-4, 3, 0), (0, 0, 5))
        three = ((1, 2, 2), (2, 1, -2), (-2, 2, -1))
        self.refuses(BadTurn("turn"), Turn.of, five, 5)
        for rows, under in ((five, 5), (three, 3)):
            for letters in ("A", "Bd"):
                turn = Turn(Word(letters))
                product = [[sum(a * b for a, b in zip(row, column)) for column in zip(*rows)] for row in turn.rows]
                self.refuses(BadTurn("turn"), Turn.of, product, under * turn.under)


class Algebra(Case):
    def test_products(self):
        for one, other in itertools.product(SOME, SOME[::3]):
            product = one * other
            for point in POINTS[:3]:
                self.assertEqual(product(point), one(other(point)))
        for turn in SOME:
            self.assertEqual(turn * ~turn, UNIT)
            self.assertEqual(~turn * turn, UNIT)
            self.assertEqual(turn * UNIT, turn)
            self.assertEqual(~~turn, turn)
            self.assertEqual((~turn).rows, transposed(turn.rows))
        for value in [*NOT_TURNS, Quarter(1, 2, 3)]:
            self.refuses(BadTurn("other"), lambda: UNIT * value)

    def test_powers(self):
        for turn in SOME:
            product = UNIT
            for times in range(15):
                self.assertEqual(turn.power(times), product)
                self.assertEqual(turn.power(times=-times), ~product)
                product = product * turn
        for value in NOT_INTEGERS:
            self.refuses(BadNumber("times"), UNIT.power, value)

    def test_great_powers(self):
        for quarter in EVERY:
            turn = Turn(Word(), quarter)
            self.assertEqual(turn.power(HUGE), turn.power(HUGE - HUGE // 12 * 12))
            self.assertEqual(turn.power(-HUGE), ~turn.power(HUGE))
        for letters in ("A", "AB", "CAb"):
            around = Turn(Word(letters)) * Turn(Word(), Quarter(1, 3, -2)) * ~Turn(Word(letters))
            self.assertEqual(around.power(HUGE), around.power(HUGE - HUGE // 4 * 4))
            self.refuses(TOO_LONG, Turn(Word(letters)).power, HUGE)
            self.refuses(TOO_LONG, Turn(Word(letters)).power, -HUGE)
        self.assertEqual(Turn(Word("A")).power(4000), Turn(Word("A" * 4000)))
        self.assertEqual(Turn(Word("A")).power(-4000), Turn(Word("a" * 4000)))
        self.refuses(TOO_LONG, Turn(Word("A")).power, 4001)
        self.refuses(TOO_LONG, Turn(Word("A")).power, -4001)

    def test_the_greatest_power_that_is_let(self):
        # Behind a long coat the last turns strike out much of what the others make.
        coat = Turn(Word("CDDbC" * 20), EVERY[3])
        for turn in [*SOME[::3], *[coat * turn * ~coat for turn in SOME[5::8]]]:
            if turn.power(12) == UNIT:
                continue
            let, refused = 12, 20000
            while refused - let > 1:
                times = (let + refused) // 2
                try:
                    turn.power(times)
                    let = times
                except TooMany:
                    refused = times
            greatest = turn.power(let)
            self.assertEqual(greatest, turn.power(let - 1) * turn)
            self.assertEqual(greatest, turn.power(let - 5) * turn.power(5))
            self.refuses(TOO_LONG, lambda: greatest * turn)
            self.refuses(TOO_LONG, turn.power, let + 1)
            self.refuses(TOO_LONG, turn.power, -let - 1)

    def test_the_longest_words(self):
        turn = self.comes_soon(lambda: Turn(LONGEST, Quarter(2, -1, 3)))
        self.assertEqual(self.comes_soon(lambda: Turn.of(turn.rows, turn.under)), turn)
        self.refuses(TOO_LONG, lambda: Turn(Word("A")) * turn)
        self.assertEqual(len((Turn(Word("a")) * turn).word), 3999)
        self.assertEqual(self.comes_soon(lambda: turn * ~turn), UNIT)
        self.refuses(TOO_LONG, turn.power, 2)
        self.assertEqual(turn.power(-1), ~turn)
        self.assertEqual(turn.power(0), UNIT)
        point = turn(Point(1, 0, 0))
        self.assertEqual(point.height, 4000)
        self.refuses(TOO_LONG, Turn(Word("A")), point)
        self.refuses(TOO_LONG, turn, point)
        self.assertEqual((~turn)(point), Point(1, 0, 0))

    def test_what_is_no_point(self):
        for value in NOT_POINTS:
            self.refuses(BadPoint("point"), UNIT, value)

    def test_nothing_changes(self):
        one, other, point = Turn(Word("AB"), Quarter(2, -1, 3)), Turn(Word("c")), Point(6, 2, 3, 7)
        rows = one.rows
        one * other, ~one, one.power(5), one(point), fixed_points(one), turns_between(point, point)
        self.assertEqual([str(one), str(other), str(point), one.rows], ["AB / 2 -1 3", "c / 1 2 3", "6 2 3 / 7", rows])


class Texts(Case):
    def test_there_and_back(self):
        for turn in [*SOME, Turn(LONGEST)]:
            self.assertEqual(Turn.read(str(turn)), turn)
        self.assertEqual(str(UNIT), "- / 1 2 3")
        self.assertEqual(str(Turn(Word("AB"), Quarter(2, -1, 3))), "AB / 2 -1 3")
        self.assertEqual(Turn.read(text="AB / 2 -1 3"), Turn(Word("AB"), Quarter(2, -1, 3)))

    def test_bent_items(self):
        for text, item in (
            ("", 0), ("Aa / 1 2 3", 0), (" / 1 2 3", 0), ("X / 1 2 3", 0), ("-- / 1 2 3", 0), ("/ 1 2 3", 0),
            ("AB", 1), ("AB 1 2 3", 1), ("AB // 1 2 3", 1), ("AB  / 1 2 3", 1), ("A B / 1 2 3", 1),
            ("AB /", 2), ("AB / 4 2 3", 2), ("AB / 0 2 3", 2), ("AB / x 2 3", 2), ("AB /  1 2 3", 2), ("AB / / 1 2", 2),
            ("AB / 1", 3), ("AB / 1 1 3", 3), ("AB / 1 -1 3", 3), ("AB / 1 +2 3", 3),
            ("AB / 1 2", 4), ("AB / 1 2 -3", 4), ("AB / 2 1 3", 4), ("AB / 1 2 1", 4), ("AB / 1 2 03", 4),
            ("AB / 1 2 3 ", 5), ("AB / 1 2 3 4", 5), ("AB / 1 2 3 / 7", 5), (str(LONGEST) + "A / 1 2 3", 0),
        ):
            self.refuses(BadText(item), Turn.read, text)
        for value in NOT_STRINGS:
            self.refuses(BadText(0), Turn.read, value)


class Staying(Case):
    def test_short_turns_against_the_matrix(self):
        axes = [Point(1, 0, 0), Point(0, 1, 0), Point(0, 0, 1)]
        points = [*points_of(1), *points_of(7), *points_of(49)]
        for word in [*words_of(0), *words_of(1), *words_of(2)]:
            for quarter in EVERY:
                turn = Turn(word, quarter)
                if turn == UNIT:
                    continue
                wanted = tuple(point for point in points if turn(point) == point)
                self.assertEqual(fixed_points(turn), wanted)
        self.assertEqual(fixed_points(turn=Turn(Word(), Quarter(1, 3, -2))), (-axes[0], axes[0]))

    def test_all_that_stand_behind_a_word(self):
        for word in [Word("AB"), Word("cDDa"), LONGEST[:2000]]:
            ahead = Turn(word)
            for quarter in EVERY:
                turn = ahead * Turn(Word(), quarter) * ~ahead
                stays = [quarter.x == 1, quarter.y == 2, quarter.z == 3]
                if sum(stays) == 3:
                    self.refuses(BadTurn("turn"), fixed_points, turn)
                elif sum(stays) == 0:
                    self.assertEqual(fixed_points(turn), ())
                else:
                    less, more = self.comes_soon(lambda: fixed_points(turn))
                    self.assertEqual(less, -more)
                    self.assertLess((less.x, less.y, less.z), (0, 0, 0))
                    self.assertEqual([less.word, less.radius], [word, (1, 1)])
                    self.assertEqual(turn(less), less)

    def test_what_is_no_turn(self):
        for value in [*NOT_TURNS, Quarter(1, 3, -2), UNIT]:
            self.refuses(BadTurn("turn"), fixed_points, value)


class Between(Case):
    def test_short_turns_between(self):
        turns = [Turn(word, quarter) for many in range(3) for word in words_of(many) for quarter in EVERY]
        points = [
            Point(1, 0, 0), Point(6, 2, 3, 7), Point(-6, 3, 2, 7), Point(0, 3, 4, 5), Point(4, 0, -3, 5),
            Point(1, 2, 2, 3), Point(0, 3, 4, 5).turned(Word("A")), Point(2, 0, 0),
        ]
        sizes = set()
        for one, other in itertools.product(points, points):
            told = turns_between(one, other)
            self.assertIs(type(told), tuple)
            self.assertEqual(told, tuple(turn for turn in turns if turn(one) == other))
            sizes.add(len(told))
        self.assertEqual(sizes, {0, 1, 4})
        self.assertEqual(turns_between(other=points[1], one=points[0]), turns_between(points[0], points[1]))

    def test_order(self):
        one = Point(1, 0, 0).turned(Word("ABcd"))
        for other in (one, one.turned(Word("Ca")), Point(0, 1, 0).turned(Word("D")), Point(0, 0, -1)):
            told = turns_between(one, other)
            keys = [(len(turn.word), turn.word.letters, turn.quarter.x, turn.quarter.y, turn.quarter.z) for turn in told]
            self.assertEqual(keys, sorted(keys))
            self.assertEqual(len(keys), 4)
            for turn in told:
                self.assertEqual(turn(one), other)

    def test_what_is_no_point(self):
        for value in NOT_POINTS:
            self.refuses(BadPoint("one"), turns_between, value, value)
            self.refuses(BadPoint("other"), turns_between, Point(1, 0, 0), value)

    def test_long_words(self):
        one, other = Point(0, 3, 4, 5).turned(Word("A" * 2000)), Point(0, 3, 4, 5).turned(Word("B" * 2000))
        self.assertEqual(self.comes_soon(lambda: turns_between(one, other)), (Turn(Word("B" * 2000 + "a" * 2000)),))
        self.refuses(TOO_LONG, turns_between, one, other.turned(Word("B")))
        self.assertEqual(turns_between(one, other.turned(Word("B")).stretched(2)), ())
        high = Point(1, 0, 0).turned(LONGEST)
        self.refuses(TOO_LONG, turns_between, high, high)


if __name__ == "__main__":
    unittest.main()
