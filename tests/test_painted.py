import itertools
import unittest

from sevenball.errors import BadMachine, BadNumber, BadWord, TooMany
from sevenball.machines import Machine
from sevenball.made import cone, ending, everything, just_words, lengths, nothing
from sevenball.painted import Painted
from sevenball.words import Word
from tests.readings import (
    LETTERS, classes_of, is_word, least_strings, mark_at, other_rows, short_words, some_machines, some_painted, strings,
)
from tests.values import EVEN, HUGE, NOT_INTEGERS, NOT_MACHINES, NOT_WORDS, Case, some_function

SHORT = short_words(3)
PLAIN = Painted([(2, [0] * 8)])


def right_rows():
    return [[0, [1, 2, 0, 0, 1, 2, 0, 1]], [200, [0, 0, 0, 0, 0, 0, 0, 2]], [7, [2, 1, 2, 1, 2, 1, 2, 1]]]


class Making(Case):
    def test_lists_and_tuples(self):
        told = tuple((colour, tuple(nexts)) for colour, nexts in right_rows())
        for rows in (right_rows(), told, list(told), tuple(right_rows())):
            painted = Painted(rows)
            self.assertEqual(painted.rows, told)
            self.assertEqual(painted.standings, 3)
            self.assertTrue(all(type(row) is tuple and type(row[1]) is tuple for row in painted.rows))
        rows = right_rows()
        painted = Painted(rows=rows)
        rows[0][1][0] = 2
        rows[1][0] = 3
        rows.pop()
        self.assertEqual(painted.rows, told)

    def test_what_is_wrong(self):
        for value in (None, True, 0, "", {}, [], (), some_function, Painted, PLAIN, {0: right_rows()}, "x" * 4001):
            self.refuses(BadMachine("rows"), Painted, value)
        for at in range(3):
            for value in (None, 0, [], (1,), [1, [0] * 8, 0], [[0] * 8, 1], {1: [0] * 8}, PLAIN):
                self.refuses(BadMachine("rows"), Painted, [*right_rows()[:at], value, *right_rows()[at + 1:]])
            for colour in (True, False, None, -1, 201, HUGE, "1", "+", (), [1]):
                rows = right_rows()
                rows[at][0] = colour
                self.refuses(BadMachine("rows"), Painted, rows)
            for place in range(8):
                for to in (True, None, -1, 3, HUGE, "0", [0]):
                    rows = right_rows()
                    rows[at][1][place] = to
                    self.refuses(BadMachine("rows"), Painted, rows)
            for many in (0, 7, 9):
                rows = right_rows()
                rows[at][1] = [0] * many
                self.refuses(BadMachine("rows"), Painted, rows)

    def test_the_most_standings(self):
        rows = [(at % 201, [(at + 1) % 4000] * 8) for at in range(4000)]
        self.assertEqual(self.comes_soon(lambda: Painted(rows)).standings, 4000)
        for row in ((0, [0] * 8), None, "x", (True, [0] * 8)):
            self.refuses(TooMany("standings", 4000), Painted, [row] * 4001)
        self.refuses(BadMachine("rows"), Painted, [None] * 4000)


class Colours(Case):
    def test_colour_of(self):
        for painted, word in itertools.product(some_painted(), SHORT):
            self.assertEqual(painted.colour_of(word=word), mark_at(painted.rows, word.letters))
        longest = Word("ABcD" * 1000)
        for painted in some_painted():
            self.assertEqual(painted.colour_of(longest), mark_at(painted.rows, longest.letters))
        for value in NOT_WORDS:
            self.refuses(BadWord(0), PLAIN.colour_of, value)

    def test_pieces(self):
        for painted in some_painted():
            for colour in (0, 1, 2, 3, 200):
                piece = painted.piece(colour=colour)
                self.assertIsInstance(piece, Machine)
                for word in SHORT:
                    self.assertIs(piece.takes(word), painted.colour_of(word) == colour)
            self.assertEqual(painted.coloured(), ~painted.piece(0))
            self.assertTrue(all(painted.coloured().takes(word) is (painted.colour_of(word) > 0) for word in SHORT))
        self.assertIs(bool(PLAIN.piece(200)), False)
        for value in (*NOT_INTEGERS, -1, 201, HUGE, -HUGE):
            self.refuses(BadNumber("colour"), PLAIN.piece, value)

    def test_colours(self):
        for painted in some_painted():
            self.assertEqual(painted.colours(), tuple(sorted({painted.colour_of(word) for word in short_words(5)})))
        self.assertEqual(PLAIN.colours(), (2,))
        # Strings that are no words have no say: they alone come to the colours 5 and 0.
        barred = Painted([(3, [1] + [2] * 7), (3, [1, 2, 2, 2, 3, 2, 2, 2]), (3, [2] * 8), (5, [3] * 8)])
        self.assertEqual(barred.colours(), (3,))
        self.assertEqual(barred.least().colours(), (3,))
        self.assertEqual(Painted([(9, [0] * 8), (0, [1] * 8)]).colours(), (9,))
        self.assertEqual(Painted([(9, [1] * 8), (4, [1] * 8)]).colours(), (4, 9))
        self.assertEqual(Painted([(0, [1] * 8), (0, [1] * 8)]).colours(), (0,))


class Of(Case):
    def test_against_the_machines(self):
        for machines in ([], some_machines()[:1], some_machines(), some_machines()[::-1], (EVEN, EVEN, nothing())):
            painted = Painted.of(machines=machines)
            for word in SHORT:
                taking = [at + 1 for at, machine in enumerate(machines) if machine.takes(word)]
                self.assertEqual(painted.colour_of(word), min(taking, default=0))
        machines = [EVEN, nothing()]
        painted = Painted.of(machines)
        machines[1] = everything()
        self.assertEqual(painted, Painted.of((EVEN,)))

    def test_many_machines(self):
        words = short_words(2)[9:] + short_words(3)[65:]
        cones = [cone(word) for word in words[:200]]
        painted = self.comes_soon(lambda: Painted.of(cones))
        for at, word in enumerate(words[:200]):
            first = next(k + 1 for k, one in enumerate(words) if word.begins(one))
            self.assertEqual(painted.colour_of(word), first)
        self.assertEqual(Painted.of([nothing()] * 199 + [everything()]).colours(), (200,))
        clocks = [lengths(modulus, [1]) for modulus in (2, 3, 4, 5, 7)]
        painted = self.comes_soon(lambda: Painted.of(clocks))
        for many in range(12):
            taking = [at + 1 for at, modulus in enumerate((2, 3, 4, 5, 7)) if many % modulus == 1]
            self.assertEqual(painted.colour_of(Word("AB" * 6)[:many]), min(taking, default=0))

    def test_what_is_wrong(self):
        for value in (None, True, 0, "", {}, {0: EVEN}, EVEN, some_function, [EVEN] * 201, (EVEN,) * 201, [None] * 201):
            self.refuses(BadMachine("machines"), Painted.of, value)
        for value in NOT_MACHINES:
            for at in range(3):
                machines = [EVEN, nothing(), EVEN]
                machines[at] = value
                self.refuses(BadMachine("machines"), Painted.of, machines)


class Equality(Case):
    def test_other_rows(self):
        for at, painted in enumerate(some_painted()):
            other = Painted(other_rows(painted.rows, at))
            self.assertIs(painted == other, True)
            self.assertIs(painted != other, False)
            self.assertEqual(painted.least().rows, other.least().rows)
        for one, other in itertools.product(some_painted(), repeat=2):
            alike = all(one.colour_of(word) == other.colour_of(word) for word in short_words(4))
            self.assertIs(one == other, alike)
        self.assertIs(Painted([(1, [0] * 8)]) == Painted([(2, [0] * 8)]), False)

    def test_other_values(self):
        for value in (*NOT_MACHINES[:-2], EVEN, everything()):
            self.assertIs(Painted([(1, [0] * 8)]) == value, False)
        self.assertIs(everything() == Painted([(1, [0] * 8)]), False)

    def test_many_standings(self):
        one = Painted([(at % 201, [(at + place) % 125 for place in range(8)]) for at in range(125)])
        other = Painted(other_rows(one.rows, 3)[:])
        self.assertIs(self.comes_soon(lambda: one == other), True)


class Least(Case):
    def test_what_it_must_be(self):
        for painted in [*some_painted(), PLAIN, Painted.of([EVEN, ending(Word("A"))])]:
            least = painted.least()
            self.assertIs(type(least), Painted)
            rows = least.rows
            self.assertEqual(least, painted)
            self.assertEqual(classes_of(rows), len(rows))
            met = least_strings(rows)
            self.assertEqual(list(met), list(range(len(rows))))
            self.assertEqual(list(met.values()), sorted(met.values(), key=lambda letters: (len(letters), letters)))
            for letters in strings(3):
                if not is_word(letters):
                    standing = 0
                    for letter in letters:
                        standing = rows[standing][1][LETTERS.index(letter)]
                    self.assertEqual(rows[standing], (0, (standing,) * 8))

    def test_by_hand(self):
        self.assertEqual(Painted.of([]).least().rows, ((0, (0,) * 8),))
        self.assertEqual(PLAIN.least().standings, 10)
        told = Painted.of([just_words([Word("b")]), just_words([Word(), Word("B"), Word("b")])])
        self.assertEqual(
            told.least().rows,
            ((2, (1, 2, 1, 1, 1, 3, 1, 1)), (0, (1,) * 8), (2, (1,) * 8), (1, (1,) * 8)),
        )

    def test_nothing_changes(self):
        painted = some_painted()[-1]
        before = (painted.rows, painted.standings)
        painted.least(), painted.colours(), painted.piece(1), painted.coloured(), str(painted), painted == PLAIN
        self.assertEqual((painted.rows, painted.standings), before)


if __name__ == "__main__":
    unittest.main()
