"""Texts of pieces, of cuts and of the way of a point down to its bare one."""

from sevenball.checks import is_within
from sevenball.cuts import MOST_TURNS, is_turn_to
from sevenball.errors import BadPaper, BadPiece, BadPoint, BadText
from sevenball.machines import machine_of
from sevenball.painted import MOST_COLOUR, Painted, painted_of
from sevenball.pieces import Cut, Piece
from sevenball.points import Point, steps
from sevenball.standings import rows_in
from sevenball.text_items import integer_in, items_of
from sevenball.words import word_in

MOST_BALL = 99


def piece_text(piece):
    """The text of a piece."""
    if not isinstance(piece, Piece):
        raise BadPiece("piece")
    return f"{piece.turn} : {piece.machine}"


def piece_of(text):
    """The piece with a text."""
    items = items_of(text)
    turn = word_in(items[0])
    if turn is None:
        raise BadText(0)
    if len(items) < 2 or items[1] != ":":
        raise BadText(1)
    return Piece(machine_of(rows_in(items, 2, {"+": True, "-": False})), turn)


def cut_text(cut):
    """The text of a cut."""
    if not isinstance(cut, Cut) or not isinstance(cut.painted, Painted) or not are_turns(cut.turns):
        raise BadPaper("cut")
    items = [f"{turn} {ball}" for turn, ball in cut.turns]
    return " ".join([*items, ":", str(cut.painted)])


def are_turns(value):
    """Whether any value is a list of pairs of a word and a ball, not too many."""
    if not isinstance(value, (list, tuple)) or len(value) > MOST_TURNS:
        return False
    return all([is_turn_to(pair, MOST_BALL) for pair in value])


def cut_of(text):
    """The cut with a text, whether or not it is right."""
    items = items_of(text)
    turns = []
    at = 0
    while at == len(items) or items[at] != ":":
        turns.append(turn_in(items, at, len(turns)))
        at += 2
    colours = {str(colour): colour for colour in range(MOST_COLOUR + 1)}
    return Cut(painted_of(rows_in(items, at + 1, colours)), tuple(turns))


def turn_in(items, at, many):
    """The word and the ball that the items from an index on write, behind so many others."""
    word = word_in(items[at]) if at < len(items) and many < MOST_TURNS else None
    if word is None:
        raise BadText(at)
    ball = integer_in(items[at + 1], 2) if at + 1 < len(items) else None
    if not is_within(ball, 0, MOST_BALL):
        raise BadText(at + 1)
    return word, ball


def story(point):
    """The texts of the points from a point down to its bare one, each with its word."""
    if not isinstance(point, Point):
        raise BadPoint("point")
    word = point.word
    return tuple([f"{one} : {word[at:]}" for at, one in enumerate(steps(point))])
