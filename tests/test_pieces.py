import itertools
import unittest

from sevenball.errors import BadPiece, BadWord, TooMany
from sevenball.machines import Machine
from sevenball.made import cone, ending, everything, nothing
from sevenball.painted import Painted
from sevenball.papers import Denial, Paper
from sevenball.pieces import Cut, Piece
from sevenball.points import Point
from sevenball.words import Word
from tests.readings import other_rows, short_words, some_machines
from tests.values import EVEN, HUGE, NOT_MACHINES, NOT_WORDS, Case, some_function

TURNS = [Word(letters) for letters in ("", "A", "bC", "aDDc")]
LONGEST = Word("ABcD" * 1000)
TOO_LONG = TooMany("letters", 4000)


class Pieces(Case):
    def test_attributes(self):
        for machine, turn in itertools.product(some_machines(), TURNS):
            piece = Piece(machine=machine, turn=turn)
            self.assertIs(piece.machine, machine)
            self.assertEqual(piece.turn, turn)
            self.assertIsInstance(piece.landed, Machine)
            for word in short_words(2):
                self.assertIs(piece.landed.takes(turn * word), machine.takes(word))
            self.assertEqual(piece.landed, machine.turned(turn))
        for piece in (Piece(EVEN), Piece(EVEN, None), Piece(machine=EVEN, turn=None)):
            self.assertEqual(piece.turn, Word())
            self.assertIsInstance(piece.turn, Word)
            self.assertEqual(piece.landed, EVEN)

    def test_what_is_wrong(self):
        for value in NOT_MACHINES:
            self.refuses(BadPiece("machine"), Piece, value)
            self.refuses(BadPiece("machine"), Piece, value, value)
        for value in NOT_WORDS:
            if value is not None:
                self.refuses(BadPiece("turn"), Piece, EVEN, value)

    def test_words_are_led(self):
        for machine, turn in itertools.product(some_machines(), TURNS):
            piece = Piece(machine, turn)
            for word in short_words(2):
                self.assertEqual(piece.led(value=word), turn * word if machine.takes(word) else None)
        self.assertEqual(Piece(EVEN).led(Word("AB")), Word("AB"))
        self.assertIsNone(Piece(nothing()).led(Word()))

    def test_points_are_led(self):
        for bare in (Point(1, 0, 0), Point(0, 3, 4, 5), Point(2, 3, 6)):
            for turn, word in itertools.product(TURNS, short_words(2)):
                point = bare.turned(word)
                led = Piece(EVEN, turn).led(point)
                if len(point.word) % 2 == 0:
                    self.assertEqual(led, point.turned(turn))
                else:
                    self.assertIsNone(led)

    def test_other_values_are_not_led(self):
        for value in NOT_WORDS:
            if not isinstance(value, Point):
                self.refuses(BadWord(0), Piece(EVEN, Word("A")).led, value)
                self.refuses(BadWord(0), Piece(nothing()).led, value)

    def test_too_many_letters(self):
        piece = Piece(EVEN, Word("B"))
        self.refuses(TOO_LONG, piece.led, LONGEST)
        self.refuses(TOO_LONG, piece.led, Point(1, 0, 0).turned(LONGEST))
        self.assertIsNone(Piece(~EVEN, Word("B")).led(LONGEST))
        self.assertIsNone(Piece(~EVEN, Word("B")).led(Point(1, 0, 0).turned(LONGEST)))
        self.assertEqual(len(piece.led(LONGEST[1:3999])), 3999)
        self.assertEqual(Piece(EVEN, Word("a")).led(LONGEST), LONGEST[1:])
        far = self.comes_soon(lambda: Piece(EVEN, LONGEST))
        self.assertEqual(far.led(Word()), LONGEST)
        self.assertEqual(far.led(~LONGEST), Word())
        self.refuses(TOO_LONG, far.led, Word("AA"))
        self.refuses(TOO_LONG, far.moved, Word("B"))
        self.assertEqual(far.moved(Word("a")).turn, LONGEST[1:])
        self.assertEqual(self.comes_soon(lambda: ~far).landed, EVEN)

    def test_moved(self):
        for turn, word in itertools.product(TURNS, TURNS):
            moved = Piece(EVEN, turn).moved(word=word)
            self.assertIsInstance(moved, Piece)
            self.assertEqual(moved.turn, word * turn)
            self.assertEqual(moved.machine, EVEN)
            self.assertEqual(moved.landed, EVEN.turned(word * turn))
        for value in NOT_WORDS:
            self.refuses(BadWord(0), Piece(EVEN).moved, value)

    def test_there_and_back(self):
        for machine, turn in itertools.product(some_machines(), TURNS):
            piece = Piece(machine, turn)
            back = ~piece
            self.assertEqual(back.machine, piece.landed)
            self.assertEqual(back.turn, ~turn)
            self.assertEqual(back.landed, machine)
            self.assertEqual(~back, piece)
            for word in short_words(2):
                led = piece.led(word)
                if led is not None:
                    self.assertEqual(back.led(led), word)

    def test_equality(self):
        for at, machine in enumerate(some_machines()):
            other = Machine(other_rows(machine.rows, at))
            self.assertIs(Piece(machine, Word("A")) == Piece(other, Word("A")), True)
            self.assertIs(Piece(machine, Word("A")) == Piece(other, Word("B")), False)
            self.assertIs(Piece(machine) == Piece(~machine), False)
        # Where it lands does not make pieces equal.
        self.assertIs(Piece(EVEN, Word("AB")) == Piece(EVEN), False)
        for value in (None, 0, EVEN, Word(), (EVEN, Word()), [EVEN, Word()], Cut(EVEN, Word()), some_function, Piece):
            self.assertIs(Piece(EVEN) == value, False)
            self.assertIs(Piece(EVEN) != value, True)

    def test_nothing_changes(self):
        piece = Piece(ending(Word("A")), Word("bC"))
        before = (piece.machine.rows, piece.turn.letters, piece.landed.rows)
        piece.led(Word("A")), piece.moved(Word("D")), ~piece, piece == Piece(everything())
        self.assertEqual((piece.machine.rows, piece.turn.letters, piece.landed.rows), before)


class Cuts(Case):
    def test_what_a_cut_keeps(self):
        turns = [(Word("A"), 0)]
        for painted, told in ((Painted([(1, [0] * 8)]), turns), (None, "x"), (HUGE, some_function), ([1], {1: [2]})):
            for cut in (Cut(painted, told), Cut(painted=painted, turns=told), Cut(turns=told, painted=painted)):
                self.assertIs(cut.painted, painted)
                self.assertIs(cut.turns, told)
                self.assertIs(bool(cut), True)
        cut = Cut(1, turns)
        turns.append(2)
        self.assertEqual(cut.turns, [(Word("A"), 0), 2])
        self.assertEqual(Cut.__bases__, (Paper,))

    def test_equality(self):
        one = Cut(Painted([(1, [0] * 8)]), [(Word("A"), 0)])
        self.assertEqual(one, Cut(Painted([(1, [1] * 8), (1, [0] * 8)]), [(Word("A"), 0)]))
        for other in (Cut(Painted([(2, [0] * 8)]), [(Word("A"), 0)]), Cut(Painted([(1, [0] * 8)]), [(Word("A"), 1)]),
                      Cut(Painted([(1, [0] * 8)]), []), None, Denial(), Cut, cone(Word("A")), (one.painted, one.turns)):
            self.assertIs(one == other, False)


if __name__ == "__main__":
    unittest.main()
