"""`==` of the values of each class: equal exactly if they are of one class, and their attributes are equal."""

import importlib
import itertools
import unittest

from sevenball import errors
from sevenball.crossings import Carry, Crossing
from sevenball.cuts import Codes
from sevenball.desk import Desk
from sevenball.lot_cuts import Lone
from sevenball.lots import Lot
from sevenball.machines import Machine
from sevenball.made import cone, everything, lengths
from sevenball.painted import Painted
from sevenball.pieces import Cut, Piece
from sevenball.points import Point
from sevenball.quarters import Quarter
from sevenball.tables import Alike, Just, Uneven, Unlike
from sevenball.tails import Covering, Lost
from sevenball.turns import Turn
from sevenball.words import Word
from tests.looks import files
from tests.readings import other_rows
from tests.values import NOT_STRINGS

EVEN = ((True, [1] * 8), (False, [0] * 8))
EVEN_TWICE = other_rows(EVEN, 3)
PAINT = ((1, [1] * 8), (2, [0] * 8))
PAINT_TWICE = other_rows(PAINT, 4)
BASES = {"BallError", "Paper", "Denial"}


def even():
    return Machine(EVEN)


def even_twice():
    return Machine(EVEN_TWICE)


def desk_of(*lines):
    desk = Desk()
    for line in lines:
        desk.tell(line)
    return desk


# For each class calls that make values of it: those in one tuple equal ones, those in different ones unlike ones.
MADE = {
    Word: [(lambda: Word(), lambda: Word.read("-")), (lambda: Word("AB"), lambda: Word("A") * Word("B")), (lambda: Word("BA"),)],
    Point: [(lambda: Point(6, 2, 3), lambda: Point(12, 4, 6, 2)), (lambda: Point(6, 2, 3, 7),), (lambda: -Point(6, 2, 3),),
            (lambda: Point(2, 6, 3),), (lambda: Point(3, 2, 6),)],
    Quarter: [(lambda: Quarter(1, 2, 3), lambda: ~Quarter(1, 2, 3)), (lambda: Quarter(2, -1, 3),), (lambda: Quarter(-2, 1, 3),),
              (lambda: Quarter(2, 1, -3),)],
    Turn: [(lambda: Turn(Word("A")), lambda: Turn(Word("A"), Quarter(1, 2, 3)), lambda: ~Turn(Word("a"))),
           (lambda: Turn(Word("B")),), (lambda: Turn(Word("A"), Quarter(2, -1, 3)),)],
    Machine: [(even, even_twice, lambda: lengths(2, [0])), (everything, lambda: cone(Word())), (lambda: ~even(),)],
    Painted: [(lambda: Painted(PAINT), lambda: Painted(PAINT_TWICE)), (lambda: Painted.of([even()]),), (lambda: Painted.of([]),)],
    Piece: [(lambda: Piece(even()), lambda: Piece(even_twice(), Word())), (lambda: Piece(even(), Word("A")),),
            (lambda: Piece(everything()), lambda: Piece(everything(), Word()))],
    Lot: [(lambda: Lot([]), lambda: Lot([Word()])), (lambda: Lot([Word("B")]), lambda: Lot([Word("b"), Word("BB")])),
          (lambda: Lot([Word("BB")]),)],
    Desk: [(lambda: Desk(), lambda: Desk.read([])), (lambda: desk_of("cone a A"), lambda: desk_of("cone a A").twin()),
           (lambda: desk_of("cone a A", "undo"),), (lambda: desk_of("cone b A"),)],
    Crossing: [(lambda: Crossing(even(), 2), lambda: Crossing(even_twice(), 2), lambda: Crossing(lengths(2, [0]), count=2)),
               (lambda: Crossing(even(), 3),), (lambda: Crossing(everything(), 2),), (lambda: Crossing(~even(), 2),)],
    Carry: [(lambda: Carry(even(), everything()), lambda: Carry(even_twice(), cone(Word()))), (lambda: Carry(everything(), even()),),
            (lambda: Carry(even(), even()), lambda: Carry(other=even_twice(), one=even())), (lambda: Carry(even(), ~even()),)],
    Cut: [(lambda: Cut(Painted(PAINT), ((Word(), 0),)), lambda: Cut(Painted(PAINT_TWICE), ((Word(), 0),))),
          (lambda: Cut(Painted(PAINT), ((Word(), 1),)),), (lambda: Cut(None, ((Word(), 0),)),), (lambda: Cut(None, None),)],
    Codes: [(lambda: Codes([[Word("A")]]), lambda: Codes(ahead=[[Word("A")]])), (lambda: Codes([[Word("B")]]),), (lambda: Codes(None),)],
    Just: [(lambda: Just(1), lambda: Just(times=1)), (lambda: Just(2),), (lambda: Just("1"),)],
    Alike: [(lambda: Alike(),)],
    Uneven: [(lambda: Uneven(Word(), 1), lambda: Uneven(found=1, word=Word())), (lambda: Uneven(Word("A"), 1),), (lambda: Uneven(Word(), 2),)],
    Unlike: [(lambda: Unlike(Word(), 1, 2),), (lambda: Unlike(Word(), 2, 1),), (lambda: Unlike(Word("A"), 1, 2),), (lambda: Unlike(Word(), 1, 1),)],
    Covering: [(lambda: Covering((Word(),)),), (lambda: Covering(()),)],
    Lost: [(lambda: Lost(Word("A")), lambda: Lost(word=Word("A"))), (lambda: Lost(Word()),)],
    Lone: [(lambda: Lone(Word("A")), lambda: Lone(word=Word("A"))), (lambda: Lone(Word()),)],
    errors.TooMany: [(lambda: errors.TooMany("letters", 24), lambda: errors.TooMany(most=24, what="letters")),
                     (lambda: errors.TooMany("letters", 40),), (lambda: errors.TooMany("words", 24),)],
    errors.Nothing: [(lambda: errors.Nothing(),)],
}
FIELDS = {
    "BadNumber": "part", "BadPoint": "part", "BadTurn": "part", "BadMachine": "part", "BadPiece": "part", "BadLot": "part", "BadPaper": "part",
    "BadWord": "at", "BadLetter": "value", "Thin": "word", "BadText": "item", "BadName": "value", "NoName": "name", "Twice": "name", "BadLine": "item",
}


def made_with(shape, field, value):
    return (lambda: shape(value), lambda: shape(**{field: value}))


for name, field in FIELDS.items():
    shape = getattr(errors, name)
    MADE[shape] = [made_with(shape, field, value) for value in (0, 1, "", "one", None, Word(), Word("A"), [Word("A")], (0, 1))]


class EqualValues(unittest.TestCase):
    def told(self, one, other, wanted):
        self.assertIs(one == other, wanted, (one, other))
        self.assertIs(other == one, wanted, (one, other))
        self.assertIs(one != other, not wanted, (one, other))

    def test_that_no_class_is_left_out(self):
        found = set()
        for path in files():
            module = importlib.import_module("sevenball" if path.stem == "__init__" else "sevenball." + path.stem)
            found |= {value for value in vars(module).values() if isinstance(value, type) and value.__module__ == module.__name__}
        self.assertEqual({shape.__name__ for shape in found}, {shape.__name__ for shape in MADE} | BASES)
        self.assertEqual({shape for shape in found if shape.__name__ not in BASES}, set(MADE))

    def test_values_that_are_made_alike(self):
        for shape, rows in MADE.items():
            for calls in rows:
                for one, other in itertools.product(calls, repeat=2):
                    self.assertIs(type(one()), shape)
                    self.told(one(), other(), True)

    def test_values_with_unlike_attributes(self):
        for rows in MADE.values():
            for calls, others in itertools.combinations(rows, 2):
                for one, other in itertools.product(calls, others):
                    self.told(one(), other(), False)

    def test_values_of_other_classes(self):
        every = [(shape, calls[0]()) for shape, rows in MADE.items() for calls in rows]
        for (shape, one), (other_shape, other) in itertools.combinations(every, 2):
            if shape is not other_shape:
                self.told(one, other, False)
        for shape, one in every:
            for other in (*NOT_STRINGS, "", "A", "-", "AB", shape, object()):
                if type(other) is not shape:
                    self.told(one, other, False)

    def test_errors_that_are_raised(self):
        for call, wanted in (
            (lambda: Word("ABb"), errors.BadWord(2)), (lambda: Crossing(even(), 9), errors.BadNumber("count")),
            (lambda: desk_of("first a"), errors.NoName("a")), (lambda: desk_of("undo"), errors.Nothing()),
            (lambda: Word("AB" * 2001), errors.TooMany("letters", 4000)),
        ):
            with self.assertRaises(errors.BallError) as caught:
                call()
            self.told(caught.exception, wanted, True)
            self.told(caught.exception, errors.BadWord(1), False)


if __name__ == "__main__":
    unittest.main()
