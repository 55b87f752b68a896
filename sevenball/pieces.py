"""Pieces: sets with a word by which they are turned, and the paper of a cut."""

from sevenball.errors import BadPiece, BadWord
from sevenball.machines import Machine
from sevenball.papers import Paper
from sevenball.points import Point
from sevenball.words import Word


class Piece:
    """The set of a machine, turned by a word; None stands for the empty one."""

    def __init__(self, machine, turn=None):
        if not isinstance(machine, Machine):
            raise BadPiece("machine")
        if turn is None:
            turn = Word()
        if not isinstance(turn, Word):
            raise BadPiece("turn")
        self.machine = machine
        self.turn = turn
        self.landed = machine.turned(turn)

    def led(self, value):
        """Where a word or a point of the set is led; None for one that does not lie in the set."""
        if not isinstance(value, (Word, Point)):
            raise BadWord(0)
        if value not in self.machine:
            return None
        if isinstance(value, Word):
            return self.turn * value
        return value.turned(self.turn)

    def moved(self, word):
        """The piece of the same machine, turned by the word as well."""
        if not isinstance(word, Word):
            raise BadWord(0)
        return Piece(self.machine, word * self.turn)

    def __invert__(self):
        return Piece(self.landed, ~self.turn)

    def __eq__(self, other):
        return isinstance(other, Piece) and self.turn == other.turn and self.machine == other.machine


class Cut(Paper):
    """A painted machine, and for each colour from 1 on a turn and a ball."""

    def __init__(self, painted, turns):
        self.painted = painted
        self.turns = turns

    def fields(self):
        """What the paper keeps."""
        return (self.painted, self.turns)
