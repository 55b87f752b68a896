"""The errors of the package. Each keeps what it is made with in attributes of the same names."""


class BallError(ValueError):
    """The base of all errors of the package; nothing is made of it alone."""


class BadNumber(BallError):
    """What was passed as an integer is none, or not within its bounds."""

    def __init__(self, part):
        self.part = part

    def __eq__(self, other):
        return isinstance(other, BadNumber) and self.part == other.part


class BadPoint(BallError):
    """What was passed as a point, or as a part of one, is none."""

    def __init__(self, part):
        self.part = part

    def __eq__(self, other):
        return isinstance(other, BadPoint) and self.part == other.part


class BadTurn(BallError):
    """What was passed as a turn or a quarter turn, or as a part of one, is none."""

    def __init__(self, part):
        self.part = part

    def __eq__(self, other):
        return isinstance(other, BadTurn) and self.part == other.part


class BadMachine(BallError):
    """What was passed as a machine, or as a part of one, is none."""

    def __init__(self, part):
        self.part = part

    def __eq__(self, other):
        return isinstance(other, BadMachine) and self.part == other.part


class BadPiece(BallError):
    """What was passed as a piece, or as a part of one, is none."""

    def __init__(self, part):
        self.part = part

    def __eq__(self, other):
        return isinstance(other, BadPiece) and self.part == other.part


class BadLot(BallError):
    """What was passed as a lot, or as a part of one, is none."""

    def __init__(self, part):
        self.part = part

    def __eq__(self, other):
        return isinstance(other, BadLot) and self.part == other.part


class BadPaper(BallError):
    """What was passed as a paper is none, or not one that can be used."""

    def __init__(self, part):
        self.part = part

    def __eq__(self, other):
        return isinstance(other, BadPaper) and self.part == other.part


class BadWord(BallError):
    """No word; at is the index of the first sign that cannot stand in it."""

    def __init__(self, at):
        self.at = at

    def __eq__(self, other):
        return isinstance(other, BadWord) and self.at == other.at


class BadLetter(BallError):
    """No letter, or no string of letters."""

    def __init__(self, value):
        self.value = value

    def __eq__(self, other):
        return isinstance(other, BadLetter) and self.value == other.value


class Thin(BallError):
    """A set has a lost tail, the word."""

    def __init__(self, word):
        self.word = word

    def __eq__(self, other):
        return isinstance(other, Thin) and self.word == other.word


class TooMany(BallError):
    """There are more of something than most."""

    def __init__(self, what, most):
        self.what = what
        self.most = most

    def __eq__(self, other):
        return isinstance(other, TooMany) and self.what == other.what and self.most == other.most


class BadText(BallError):
    """No text; item is the index of the first item that cannot stand."""

    def __init__(self, item):
        self.item = item

    def __eq__(self, other):
        return isinstance(other, BadText) and self.item == other.item


class BadName(BallError):
    """No name."""

    def __init__(self, value):
        self.value = value

    def __eq__(self, other):
        return isinstance(other, BadName) and self.value == other.value


class NoName(BallError):
    """A name of nothing that is kept."""

    def __init__(self, name):
        self.name = name

    def __eq__(self, other):
        return isinstance(other, NoName) and self.name == other.name


class Twice(BallError):
    """A name that stands there already."""

    def __init__(self, name):
        self.name = name

    def __eq__(self, other):
        return isinstance(other, Twice) and self.name == other.name


class BadLine(BallError):
    """No line of a desk; item is the index of the first item that cannot stand."""

    def __init__(self, item):
        self.item = item

    def __eq__(self, other):
        return isinstance(other, BadLine) and self.item == other.item


class Nothing(BallError):
    """Nothing that can be taken back."""

    def __eq__(self, other):
        return isinstance(other, Nothing)
