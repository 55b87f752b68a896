"""Values that are passed where something else is wanted, and a test case that knows errors."""

import time
import unittest

from sevenball.machines import Machine
from sevenball.painted import Painted
from sevenball.papers import Denial
from sevenball.pieces import Cut, Piece
from sevenball.points import Point
from sevenball.quarters import Quarter
from sevenball.turns import Turn
from sevenball.words import Word

HUGE = 10 ** 399 + 7
EVEN = Machine([(True, [1] * 8), (False, [0] * 8)])


def some_function():
    return 0


NOT_STRINGS = [
    None, True, False, 0, 7, -1, HUGE, (), ("A", "B"), [], ["A"], {}, {"A": 1}, [[["A"]]],
    some_function, len, Word, Word("A"), Point(6, 2, 3, 7), Quarter(1, 2, 3), Denial(), EVEN,
]
NOT_INTEGERS = [
    None, True, False, "", "1", (), (1,), [], [1], {}, {1: 1}, [[(1,)]],
    some_function, len, Word, Word(), Point(1, 0, 0), Quarter(1, 2, 3), Denial(), EVEN,
]
NOT_WORDS = [
    None, True, 0, 1, HUGE, "", "A", "-", (), ("A",), ["A"], {"A": "A"},
    some_function, Word, Point(6, 2, 3, 7), Quarter(1, 2, 3), Turn(Word("A")), Denial(), EVEN, Piece(EVEN),
]
NOT_POINTS = [
    None, True, 0, 1, HUGE, "", "1 0 0", (1, 0, 0), [1, 0, 0, 1], {"x": 1},
    some_function, Point, Word("A"), Quarter(1, 2, 3), Turn(Word("A")), Denial(), EVEN,
]
NOT_TURNS = [
    None, True, 0, 1, HUGE, "", "1 2 3", (1, 2, 3), [1, 2, 3], {"x": 1},
    some_function, Quarter, Turn, Word("A"), Point(1, 0, 0), Denial(), EVEN,
]
NOT_MACHINES = [
    None, True, 0, 1, HUGE, "", "even", str(EVEN), (), [EVEN], (EVEN,), {"machine": EVEN}, EVEN.rows,
    some_function, Machine, Word("A"), Point(1, 0, 0), Quarter(1, 2, 3), Denial(), Piece(EVEN),
    Painted([(1, [0] * 8)]), Cut(Painted([(1, [0] * 8)]), []),
]


class Case(unittest.TestCase):
    def refuses(self, error, call, *values, **named):
        """The call raises an error of just this class with just these fields."""
        with self.assertRaises(type(error)) as caught:
            call(*values, **named)
        self.assertIs(type(caught.exception), type(error))
        self.assertEqual(vars(caught.exception), vars(error))

    def comes_soon(self, call, seconds=15):
        """What the call returns, which must not take long."""
        before = time.perf_counter()
        answer = call()
        self.assertLess(time.perf_counter() - before, seconds)
        return answer
