"""Painted machines: machines that give each word a colour."""

from sevenball.checks import is_within
from sevenball.errors import BadMachine, BadNumber, BadWord
from sevenball.machines import Machine, machine_of
from sevenball.row_walks import apart_letters, paired
from sevenball.standings import copied_rows, led_to, row_text, rows_in
from sevenball.strict_rows import strict_of, unfolded
from sevenball.text_items import items_of
from sevenball.words import Word

MOST_COLOUR = 200
# The rows of a painted machine by which each word has the colour 0.
NO_COLOURS = ((0, (0, 0, 0, 0, 0, 0, 0, 0)),)


class Painted:
    """The painted machine with the told rows."""

    def __init__(self, rows):
        self.rows = copied_rows(rows)
        if not all([is_within(row[0], 0, MOST_COLOUR) for row in self.rows]):
            raise BadMachine("rows")
        self.standings = len(self.rows)
        self._strict_rows = None

    @property
    def strict(self):
        """The rows of the least painted machine."""
        if self._strict_rows is None:
            self._strict_rows = strict_of(self.rows, 0)
        return self._strict_rows

    @staticmethod
    def of(machines):
        """The painted machine by which a word has the colour 1 and the index of the first machine that takes it."""
        if not isinstance(machines, (list, tuple)) or len(machines) > MOST_COLOUR:
            raise BadMachine("machines")
        if not all([isinstance(machine, Machine) for machine in machines]):
            raise BadMachine("machines")
        rows = NO_COLOURS
        least = len(rows)
        for index, machine in enumerate(machines):
            rows = painted_over(rows, machine.strict, index + 1)
            # The least rows by the first machines are never more than those by all: it pays to come back to them.
            if len(rows) > 2 * least:
                rows = strict_of(rows, 0)
                least = len(rows)
        return painted_of(rows)

    @staticmethod
    def read(text):
        """The painted machine with this text."""
        colours = {str(colour): colour for colour in range(MOST_COLOUR + 1)}
        return painted_of(rows_in(items_of(text), 0, colours))

    def __str__(self):
        return " / ".join([row_text(str(colour), nexts) for colour, nexts in self.rows])

    def colour_of(self, word):
        """The colour of a word."""
        if not isinstance(word, Word):
            raise BadWord(0)
        return self.rows[led_to(self.rows, word.letters)][0]

    def piece(self, colour):
        """The machine of all words of a colour."""
        if not is_within(colour, 0, MOST_COLOUR):
            raise BadNumber("colour")
        return machine_of(tuple([(one == colour, nexts) for one, nexts in self.rows]))

    def coloured(self):
        """The machine of all words whose colour is above 0."""
        return machine_of(tuple([(colour > 0, nexts) for colour, nexts in self.rows]))

    def colours(self):
        """The colours of all words, each once, ascending."""
        # Behind the first node are those that words lead to.
        marks, _ = unfolded(self.rows, 0)
        return tuple(sorted(set([int(colour) for colour in marks[1:]])))

    def __eq__(self, other):
        return isinstance(other, Painted) and apart_letters(self.rows, other.rows) is None

    def least(self):
        """The strict painted machine with the same colours of all words and the fewest standings."""
        return painted_of(self.strict)


def painted_of(rows):
    """The painted machine with these rows, which are right ones, however many."""
    painted = Painted(NO_COLOURS)
    painted.rows = rows
    painted.standings = len(rows)
    return painted


def painted_over(rows, lit_rows, colour):
    """The rows by which words without a colour have this one where the other rows are lit."""
    pairs, nexts = paired(rows, lit_rows)
    colours = [colour if lit_rows[to][0] and rows[at][0] == 0 else rows[at][0] for at, to in pairs]
    return tuple(list(zip(colours, nexts)))
