"""Crossings: words and points of a set led to balls by a cut of it, and back."""

from sevenball.checks import is_within
from sevenball.code_rows import codes_for, comes_from, goes_to, turns_of
from sevenball.errors import BadMachine, BadNumber, BadPoint, BadWord
from sevenball.letter_rows import ascending, joined, undone
from sevenball.machines import Machine
from sevenball.made import everything
from sevenball.points import Point
from sevenball.tails import check_full, check_machine
from sevenball.words import Word

MOST_BALLS = 8
MOST_STEPS = 20


class Crossing:
    """The way of a set to so many balls, by one cut of it."""

    def __init__(self, machine, count):
        check_machine(machine)
        if not is_within(count, 1, MOST_BALLS):
            raise BadNumber("count")
        check_full(machine)
        self.machine = machine
        self.count = count
        self.ahead = codes_for(machine.strict, count)
        self.turns = each_once([letters for letters, _ in turns_of(self.ahead)])

    def there(self, value):
        """The ball and the value to which a value of the set goes."""
        letters = letters_in(value, self.machine)
        ball, come = goes_to(self.machine.strict, self.ahead, letters)
        return ball, put_there(value, come)

    def back(self, ball, value):
        """The value of the set that goes to a value on a ball."""
        if not is_within(ball, 0, self.count - 1):
            raise BadNumber("ball")
        letters = letters_of(value)
        return put_there(value, comes_from(self.machine.strict, self.ahead, ball, letters))

    # The turns hang on the set and on the number of balls alone.
    def __eq__(self, other):
        return isinstance(other, Crossing) and self.count == other.count and self.machine == other.machine


class Carry:
    """The way from one set to another one, by a ball."""

    def __init__(self, one, other):
        if not isinstance(one, Machine):
            raise BadMachine("one")
        if not isinstance(other, Machine):
            raise BadMachine("other")
        self.outward = Crossing(one, 1)
        self.homeward = Crossing(other, 1)
        self.one = one
        self.other = other
        backs = [undone(turn.letters) for turn in self.homeward.turns]
        self.turns = each_once([joined(back, turn.letters) for turn in self.outward.turns for back in backs])

    def __call__(self, value):
        """The value of the other set that comes of a value of the one."""
        ball, come = self.outward.there(value)
        return self.homeward.back(ball, come)

    def back(self, value):
        """The value of the one set of which a value of the other comes."""
        ball, come = self.homeward.there(value)
        return self.outward.back(ball, come)

    # The turns hang on the two sets alone.
    def __eq__(self, other):
        return isinstance(other, Carry) and self.one == other.one and self.other == other.other


def each_once(rows):
    """The words of the letters, ascending, each once."""
    unlike = {row: True for row in rows}
    return tuple([Word(letters) for letters in ascending(unlike)])


def letters_of(value):
    """The letters of a word, or of the word of a point."""
    if isinstance(value, Point):
        return value.word.letters
    if not isinstance(value, Word):
        raise BadWord(0)
    return value.letters


def letters_in(value, machine):
    """The letters of a word, or of the word of a point, that lies in the set."""
    letters = letters_of(value)
    if value in machine:
        return letters
    if isinstance(value, Point):
        raise BadPoint("value")
    raise BadWord(0)


def put_there(value, letters):
    """The word of the letters, for a point the point of its sphere with this word and the same bare point."""
    word = Word(letters)
    return value.bare.turned(word) if isinstance(value, Point) else word


def check_whole(value):
    """Raises BadMachine for what is no crossing of all words."""
    if not isinstance(value, Crossing) or value.machine != everything():
        raise BadMachine("crossing")


def address(crossing, value, many):
    """The numbers of the balls by which a value goes in so many steps, and the value it comes to."""
    check_whole(crossing)
    letters_of(value)
    if not is_within(many, 0, MOST_STEPS):
        raise BadNumber("many")
    balls = []
    for _ in range(many):
        ball, value = crossing.there(value)
        balls.append(ball)
    return tuple(balls), value


def found(crossing, balls, value):
    """The value that goes by the balls of an address, and comes to a value at the end."""
    check_whole(crossing)
    if not isinstance(balls, (list, tuple)) or len(balls) > MOST_STEPS:
        raise BadNumber("balls")
    if not all([is_within(ball, 0, crossing.count - 1) for ball in balls]):
        raise BadNumber("balls")
    letters_of(value)
    for ball in balls[::-1]:
        value = crossing.back(ball, value)
    return value
