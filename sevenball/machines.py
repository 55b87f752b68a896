"""Machines: rows of standings that read words and take some of them."""

from sevenball.checks import LETTERS, is_within
from sevenball.errors import BadMachine, BadNumber, BadPoint, BadTurn, BadWord
from sevenball.letter_rows import followers
from sevenball.points import Point
from sevenball.quarters import Quarter
from sevenball.row_walks import NO_WORDS, apart_letters, paired, turned_rows
from sevenball.standings import copied_rows, led_to, row_text, rows_in
from sevenball.strict_rows import BARRED, NO_LETTER, strict_of
from sevenball.text_items import items_of
from sevenball.words import Word

MOST_COUNTED = 60
MOST_SPELLED = 5


class Machine:
    """The machine with the told rows, which takes a set of words."""

    def __init__(self, rows):
        self.rows = copied_rows(rows)
        if not all([isinstance(row[0], bool) for row in self.rows]):
            raise BadMachine("rows")
        self.standings = len(self.rows)
        self._least_rows = None

    @property
    def strict(self):
        """The rows of the least machine, of which all that sets are made of is made: so they stay small."""
        if self._least_rows is None:
            self._least_rows = strict_of(self.rows, False)
        return self._least_rows

    @staticmethod
    def read(text):
        """The machine with this text."""
        return machine_of(rows_in(items_of(text), 0, {"+": True, "-": False}))

    def __str__(self):
        return " / ".join([row_text("+" if lit else "-", nexts) for lit, nexts in self.rows])

    def after(self, word):
        """The number of the standing that a word leads to."""
        if not isinstance(word, Word):
            raise BadWord(0)
        return led_to(self.rows, word.letters)

    def takes(self, word):
        """Whether the machine takes a word."""
        return self.rows[self.after(word)][0]

    def holds(self, point):
        """Whether the machine takes the word of a point."""
        if not isinstance(point, Point):
            raise BadPoint("point")
        # The letters may be more than those of a Word.
        return self.rows[led_to(self.rows, point.descent[0])][0]

    def __contains__(self, value):
        if isinstance(value, Word):
            return self.takes(value)
        return isinstance(value, Point) and self.holds(value)

    def __and__(self, other):
        return put_together(self, other, ((True, True),))

    def __or__(self, other):
        return put_together(self, other, ((True, True), (True, False), (False, True)))

    def __sub__(self, other):
        return put_together(self, other, ((True, False),))

    def __xor__(self, other):
        return put_together(self, other, ((True, False), (False, True)))

    def __invert__(self):
        return machine_of(tuple([(not lit, nexts) for lit, nexts in self.rows]))

    def turned(self, word):
        """The machine of the set turned by a word."""
        if not isinstance(word, Word):
            raise BadWord(0)
        return machine_of(turned_rows(self.strict, word.letters))

    def renamed(self, quarter):
        """The machine of the set renamed by a quarter turn."""
        if not isinstance(quarter, Quarter):
            raise BadTurn("quarter")
        back = ~quarter
        old = [LETTERS.find(back.letter_to(letter)) for letter in LETTERS]
        return machine_of(tuple([(lit, tuple([nexts[at] for at in old])) for lit, nexts in self.rows]))

    def __eq__(self, other):
        return isinstance(other, Machine) and apart_letters(self.rows, other.rows) is None

    def __bool__(self):
        return apart_letters(self.rows, NO_WORDS) is not None

    def within(self, other):
        """Whether another machine takes each word of this one."""
        return not bool(self - other)

    def first(self):
        """The least word of the set, None if there is none."""
        letters = apart_letters(self.rows, NO_WORDS)
        return None if letters is None else Word(letters)

    def apart(self, other):
        """The least word that just one of two machines takes, None if there is none."""
        if not isinstance(other, Machine):
            raise BadMachine("other")
        letters = apart_letters(self.rows, other.rows)
        return None if letters is None else Word(letters)

    def counted(self, many):
        """How many words of just so many letters are in the set."""
        if not is_within(many, 0, MOST_COUNTED):
            raise BadNumber("many")
        layer = {NO_LETTER: 1}
        for _ in range(many):
            layer = next_layer(self.rows, layer)
        return sum([layer[key] for key in layer if self.rows[key // 9][0]])

    def listed(self, many):
        """The words of just so many letters in the set, ascending."""
        if not is_within(many, 0, MOST_SPELLED):
            raise BadNumber("many")
        layer = [("", 0)]
        for _ in range(many):
            layer = [
                (letters + letter, self.rows[standing][1][LETTERS.find(letter)])
                for letters, standing in layer for letter in followers(letters)
            ]
        for letters, standing in layer:
            if self.rows[standing][0]:
                yield Word(letters)

    def least(self):
        """The least machine of the set."""
        return machine_of(self.strict)


def machine_of(rows):
    """The machine with these rows, which are right ones, however many."""
    machine = Machine(NO_WORDS)
    machine.rows = rows
    machine.standings = len(rows)
    return machine


def put_together(one, other, lit_where):
    """The machine that reads in two at once, lit where the two are lit or not as one of the told pairs is."""
    if not isinstance(other, Machine):
        raise BadMachine("other")
    pairs, nexts = paired(one.strict, other.strict)
    lits = [(one.strict[at][0], other.strict[to][0]) in lit_where for at, to in pairs]
    return machine_of(tuple(list(zip(lits, nexts))))


def next_layer(rows, layer):
    """How many words with one letter more lead to each standing and last letter."""
    following = {}
    for key in layer:
        standing, last = divmod(key, 9)
        for letter, to in enumerate(rows[standing][1]):
            if letter != BARRED[last]:
                following[9 * to + letter] = following.get(9 * to + letter, 0) + layer[key]
    return following
