import math
import unittest
from fractions import Fraction

from sevenball.errors import BadNumber, BadPoint
from sevenball.points import Point
from sevenball.shells import points_of, shell
from sevenball.words import words_of
from tests.values import HUGE, NOT_INTEGERS, NOT_POINTS, Case


class PointsOf(Case):
    def test_every_under(self):
        told = {many: self.comes_soon(lambda: points_of(many)) for many in range(1, 50)}
        for many, points in told.items():
            self.assertIs(type(points), tuple)
            keys = [(point.x, point.y, point.z) for point in points]
            self.assertEqual(keys, sorted(keys))
            self.assertEqual(len(set(keys)), len(keys))
            for point in points:
                self.assertEqual([point.under, point.radius], [many, (1, 1)])
            if many % 2 == 0:
                self.assertEqual(points, ())
        sizes = {many: len(points) for many, points in told.items()}
        self.assertEqual([sizes[many] for many in (1, 3, 5, 7, 9, 21, 35, 49)], [6, 24, 24, 48, 72, 192, 192, 336])

    def test_none_is_lacking(self):
        for many in (1, 3, 5, 7, 9, 11, 15):
            numbers = range(-many, many + 1)
            found = [
                (x, y, z) for x in numbers for y in numbers for z in numbers
                if x * x + y * y + z * z == many * many
                and math.lcm(*[Fraction(value, many).denominator for value in (x, y, z)]) == many
            ]
            self.assertEqual([(point.x, point.y, point.z) for point in points_of(many=many)], found)

    def test_bounds(self):
        for value in (0, 50, -1, HUGE, -HUGE, *NOT_INTEGERS):
            self.refuses(BadNumber("many"), points_of, value)


class Shell(Case):
    def test_shells(self):
        for bare in (Point(0, 0, 1), Point(0, -7, 0, 3), Point(1, 2, 2, 3)):
            for many, size in enumerate((1, 8, 56, 392)):
                points = list(shell(bare=bare, many=many))
                self.assertEqual(len(points), size)
                self.assertEqual(points, [bare.turned(word) for word in words_of(many)])
                self.assertEqual([point.word for point in points], list(words_of(many)))
                self.assertTrue(all(point.bare == bare for point in points))

    def test_errors_come_with_the_first_item_at_the_latest(self):
        bare = Point(0, 0, 1)
        for value in (*NOT_POINTS, Point(6, 2, 3, 7), Point(6, 2, 3)):
            self.refuses(BadPoint("bare"), lambda: next(iter(shell(value, 1))))
            self.refuses(BadPoint("bare"), lambda: next(iter(shell(value, None))))
        for value in (-1, 4, HUGE, -HUGE, *NOT_INTEGERS):
            self.refuses(BadNumber("many"), lambda: next(iter(shell(bare, value))))
        self.assertEqual(str(bare), "0 0 1")


if __name__ == "__main__":
    unittest.main()
