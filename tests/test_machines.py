import itertools
import random
import unittest

from sevenball.errors import BadMachine, BadNumber, BadPoint, BadTurn, BadWord, TooMany
from sevenball.machines import Machine
from sevenball.made import behind, cone, ending, everything, just_words, lengths, nothing, of_letters, powers, up_to
from sevenball.points import Point
from sevenball.quarters import Quarter
from sevenball.words import Word
from tests.readings import (
    LETTERS, classes_of, is_word, least_strings, mark_at, other_rows, short_words, some_machines, strings, struck, taken,
    told_rows, undone,
)
from tests.values import (
    EVEN, HUGE, NOT_INTEGERS, NOT_MACHINES, NOT_POINTS, NOT_TURNS, NOT_WORDS, Case, some_function,
)

ENDS_A = Machine([(False, [1] + [0] * 7), (True, [1] + [0] * 7)])
LONGEST = Word("ABcD" * 1000)
SHORT = short_words(3)
TOO_LONG = TooMany("letters", 4000)


def right_rows():
    return [[True, [1, 2, 0, 0, 1, 2, 0, 1]], [False, [0, 0, 0, 0, 0, 0, 0, 2]], [True, [2, 1, 2, 1, 2, 1, 2, 1]]]


class Making(Case):
    def test_lists_and_tuples(self):
        told = tuple((lit, tuple(nexts)) for lit, nexts in right_rows())
        for rows in (right_rows(), told, list(told), tuple(right_rows()), [(True, right_rows()[0][1]), *told[1:]]):
            machine = Machine(rows)
            self.assertEqual(machine.rows, told)
            self.assertEqual(machine.standings, 3)
            self.assertIs(type(machine.rows), tuple)
            for row in machine.rows:
                self.assertIs(type(row), tuple)
                self.assertIs(type(row[0]), bool)
                self.assertIs(type(row[1]), tuple)
        self.assertEqual(Machine(rows=[(False, [0] * 8)]).standings, 1)

    def test_what_was_passed_can_change(self):
        rows = right_rows()
        machine = Machine(rows)
        rows[0][1][0] = 2
        rows[1][0] = True
        rows.pop()
        self.assertEqual(machine.rows, tuple((lit, tuple(nexts)) for lit, nexts in right_rows()))

    def test_what_is_no_list(self):
        for value in (None, True, 0, HUGE, "", "+", "x" * 5000, {}, {0: right_rows()}, {k: k for k in range(4001)},
                      some_function, Machine, EVEN, Word("A"), [], ()):
            self.refuses(BadMachine("rows"), Machine, value)

    def test_the_most_standings(self):
        rows = [(at % 2 == 0, [(at + 1) % 4000] * 8) for at in range(4000)]
        machine = self.comes_soon(lambda: Machine(rows))
        self.assertEqual(machine.standings, 4000)
        self.assertEqual(machine.after(Word("ABcd" * 500)), 2000)
        for many in (4001, 5000):
            for row in ((True, [0] * 8), None, 0, "x", [], (True, [many] * 8)):
                self.refuses(TooMany("standings", 4000), Machine, [row] * many)
                self.refuses(TooMany("standings", 4000), Machine, (row,) * many)
        self.refuses(BadMachine("rows"), Machine, [None] * 4000)

    def test_what_is_wrong_in_a_row(self):
        for at in range(3):
            for value in (None, 0, "row", [], (True,), [True, [0] * 8, 0], [[0] * 8, True], {True: [0] * 8}, True,
                          {0: True, 1: [0] * 8}, EVEN, [0] * 8):
                rows = right_rows()
                rows[at] = value
                self.refuses(BadMachine("rows"), Machine, rows)
            for lit in (0, 1, None, "+", "True", (), [True], 2, EVEN):
                rows = right_rows()
                rows[at][0] = lit
                self.refuses(BadMachine("rows"), Machine, rows)
            for nexts in (None, 0, [0] * 7, [0] * 9, (), "00000000", {k: 0 for k in range(8)}, EVEN):
                rows = right_rows()
                rows[at][1] = nexts
                self.refuses(BadMachine("rows"), Machine, rows)
            for place in range(8):
                for to in (True, False, None, -1, 3, HUGE, -HUGE, "0", [0], (0,)):
                    rows = right_rows()
                    rows[at][1][place] = to
                    self.refuses(BadMachine("rows"), Machine, rows)


class Reading(Case):
    def test_after_and_takes(self):
        for machine in some_machines():
            for word in SHORT:
                standing = 0
                for letter in word.letters:
                    standing = machine.rows[standing][1][LETTERS.index(letter)]
                self.assertEqual(machine.after(word), standing)
                self.assertIs(machine.takes(word), machine.rows[standing][0])
                self.assertIs(word in machine, machine.rows[standing][0])
        self.assertEqual(EVEN.after(word=Word("ABc")), 1)
        self.assertIs(EVEN.takes(word=Word()), True)

    def test_long_words(self):
        for machine in some_machines():
            for word in (LONGEST, LONGEST[:300]):
                self.assertIs(self.comes_soon(lambda: machine.takes(word)), mark_at(machine.rows, word.letters))

    def test_points(self):
        bare = [Point(1, 0, 0), Point(0, -3, 0, 5), Point(2, 3, 6, 1), Point(1, 2, 2, 9)]
        for machine, point, word in itertools.product(some_machines(), bare, SHORT[:70]):
            turned = point.turned(word)
            told = mark_at(machine.rows, turned.word.letters)
            self.assertIs(machine.holds(turned), told)
            self.assertIs(turned in machine, told)
        self.assertIs(EVEN.holds(point=Point(6, 2, 3)), False)
        far = Point(1, 0, 0).turned(LONGEST)
        self.assertIs(self.comes_soon(lambda: far in ENDS_A), False)
        self.assertIs(Point(1, 0, 0).turned(Word("A" * 4000)) in ENDS_A, True)

    def test_other_values(self):
        for value in NOT_WORDS:
            self.refuses(BadWord(0), EVEN.after, value)
            self.refuses(BadWord(0), EVEN.takes, value)
        for value in NOT_POINTS:
            self.refuses(BadPoint("point"), EVEN.holds, value)
            if not isinstance(value, Word):
                self.assertIs(value in EVEN, False)
                self.assertIs(value in ~EVEN, False)
        self.assertIs("AB" in EVEN, False)


class Sets(Case):
    def test_two_machines(self):
        for one, other in itertools.product(some_machines(), repeat=2):
            first, second = taken(one, 3), taken(other, 3)
            for made, wanted in (
                (one & other, first & second), (one | other, first | second),
                (one - other, first - second), (one ^ other, first ^ second),
            ):
                self.assertIsInstance(made, Machine)
                self.assertEqual({word.letters for word in SHORT if made.takes(word)}, wanted)

    def test_all_other_words(self):
        for machine in some_machines():
            self.assertEqual(taken(~machine, 3), {word.letters for word in SHORT} - taken(machine, 3))
            self.assertEqual(~~machine, machine)

    def test_made_of_many(self):
        machine, by_hand = EVEN, [lambda letters: len(letters) % 2 == 0]
        for at in range(12):
            machine = (machine.turned(Word("A")) | EVEN) ^ ENDS_A.turned(Word("bC"))
            by_hand.append(
                lambda letters, before=by_hand[-1]:
                (before(struck("a" + letters)) or len(letters) % 2 == 0) != struck("cB" + letters).endswith("A")
            )
            for word in short_words(2):
                self.assertIs(word in machine, by_hand[-1](word.letters))
        for at in range(200):
            machine = self.comes_soon(lambda: (machine.turned(Word("A")) | EVEN) ^ ENDS_A.turned(Word("bC")))
        self.assertLess(machine.least().standings, 4000)
        machine = ENDS_A
        for at in range(200):
            machine = self.comes_soon(lambda: machine | machine if at % 2 else machine & machine)
        self.assertEqual(machine, ENDS_A)

    def test_what_is_no_machine(self):
        for value in NOT_MACHINES:
            self.refuses(BadMachine("other"), lambda: EVEN & value)
            self.refuses(BadMachine("other"), lambda: EVEN | value)
            self.refuses(BadMachine("other"), lambda: EVEN - value)
            self.refuses(BadMachine("other"), lambda: EVEN ^ value)

    def test_turned(self):
        for machine, letters in itertools.product(some_machines(), ("", "A", "d", "AB", "bb", "Cda", "ABab", "aDDc")):
            turned = machine.turned(word=Word(letters))
            for word in SHORT:
                told = mark_at(machine.rows, struck(undone(letters) + word.letters))
                self.assertIs(turned.takes(word), told)
            self.assertEqual(turned.turned(~Word(letters)), machine)
        self.assertEqual(EVEN.turned(Word()), EVEN)
        for value in NOT_WORDS:
            self.refuses(BadWord(0), EVEN.turned, value)

    def test_turned_by_many_letters(self):
        for machine in (EVEN, ENDS_A, cone(Word("A")), some_machines()[-1]):
            turned = self.comes_soon(lambda: machine.turned(LONGEST))
            for word in (Word(), Word("A"), LONGEST, LONGEST[:1234], LONGEST[:3999], LONGEST[:17] * Word("CBa")):
                told = mark_at(machine.rows, struck(undone(LONGEST.letters) + word.letters))
                self.assertIs(turned.takes(word), told)
            back = self.comes_soon(lambda: turned.turned(~LONGEST))
            self.assertTrue(self.comes_soon(lambda: back == machine))
            self.assertEqual(self.comes_soon(back.least).rows, machine.least().rows)

    def test_renamed(self):
        for machine, quarter in itertools.product(some_machines()[3:6], Quarter.every()):
            renamed = machine.renamed(quarter=quarter)
            wanted = {"".join(quarter.letter_to(letter) for letter in letters) for letters in taken(machine, 2)}
            self.assertEqual({word.letters for word in short_words(2) if renamed.takes(word)}, wanted)
            self.assertEqual(renamed.renamed(~quarter), machine)
        for value in NOT_TURNS:
            if not isinstance(value, Quarter):
                self.refuses(BadTurn("quarter"), EVEN.renamed, value)

    def test_nothing_changes(self):
        one, other = some_machines()[-2:]
        before = (one.rows, other.rows, one.standings)
        one & other, one | other, one - other, one ^ other, ~one, one == other, one.within(other), bool(one)
        one.turned(Word("AB")), one.renamed(Quarter(2, -1, 3)), one.first(), one.apart(other), one.counted(3)
        list(one.listed(2)), one.least(), str(one), one.takes(Word("A")), Word("A") in one
        self.assertEqual((one.rows, other.rows, one.standings), before)


class Equality(Case):
    def test_other_rows(self):
        for at, machine in enumerate(some_machines()):
            other = Machine(other_rows(machine.rows, at))
            self.assertIs(machine == other, True)
            self.assertIs(machine != other, False)
            self.assertIsNone(machine.apart(other))
            self.assertEqual(machine.least().rows, other.least().rows)
            self.assertIs(machine.within(other), True)
        # What is done with strings that are no words is asked nowhere.
        strange = Machine([(True, [1, 1, 1, 1, 1, 1, 1, 1]), (False, [0, 0, 0, 0, 0, 0, 0, 0])])
        barred = Machine([
            (True, [1] * 8),
            (False, [2, 3, 4, 5, 6, 7, 8, 9]),
            *[(True, [0 if (at + 4) % 8 == to else 1 for to in range(8)]) for at in range(8)],
        ])
        self.assertEqual(strange, barred)

    def test_against_word_by_word(self):
        for one, other in itertools.product(some_machines(), repeat=2):
            first, second = taken(one, 4), taken(other, 4)
            apart = one.apart(other=other)
            self.assertIs(one == other, apart is None)
            self.assertEqual(other.apart(one), apart)
            least = min((Word(letters) for letters in first ^ second), default=None)
            if apart is None or len(apart) <= 4:
                self.assertEqual(apart, least)
            else:
                self.assertIsNone(least)
                self.assertNotEqual(one.takes(apart), other.takes(apart))
            if not first <= second:
                self.assertIs(one.within(other), False)
            self.assertIs(one.within(other), not one - other)

    def test_first_against_all_lesser_words(self):
        machines = [EVEN, ENDS_A, ~EVEN, cone(Word("bDa")), ending(Word("AB")) - cone(Word("B")), powers(Word("cD")) - up_to(0)]
        for machine in machines + some_machines():
            lesser = taken(machine, 4)
            least = min((Word(letters) for letters in lesser), default=None)
            self.assertEqual(machine.first(), least)
            self.assertIs(bool(machine), bool(lesser))

    def test_no_words(self):
        lost = Machine([(False, [1] * 8), (False, [0] * 8)])
        # The only lit standing is come to by strings alone that are no words.
        barred = Machine([(False, [1] + [0] * 7), (False, [1, 0, 0, 0, 2, 0, 0, 0]), (True, [2] * 8)])
        for machine in (lost, barred, EVEN & ~EVEN, nothing()):
            self.assertIs(bool(machine), False)
            self.assertIsNone(machine.first())
            self.assertEqual(machine, nothing())
            self.assertEqual(machine.least().rows, ((False, (0,) * 8),))

    def test_other_values(self):
        for value in NOT_MACHINES:
            self.assertIs(EVEN == value, False)
            self.assertIs(EVEN != value, True)
            self.refuses(BadMachine("other"), EVEN.within, value)
            self.refuses(BadMachine("other"), EVEN.apart, value)

    def test_least_words_that_are_too_long(self):
        longest, longer = cone(LONGEST), behind(Word("A"), cone(LONGEST))
        self.assertEqual(self.comes_soon(longest.first), LONGEST)
        self.refuses(TOO_LONG, longer.first)
        self.refuses(TOO_LONG, longer.apart, nothing())
        self.refuses(TOO_LONG, nothing().apart, longer)
        self.assertEqual(longer.apart(longest), LONGEST)
        self.assertIs(bool(longer), True)
        self.assertIs(longer == nothing(), False)

    def test_many_standings(self):
        rows = told_rows(11, 125)
        one, other = Machine(rows), Machine(other_rows(rows, 12)[:])
        self.assertEqual(other.standings, 250)
        self.assertIs(self.comes_soon(lambda: one == other), True)
        self.assertIsNone(self.comes_soon(lambda: one.apart(other)))
        # Clocks of two lengths go on alike for long, and for many standings at once.
        slow = Machine([(at == 123, [(at + 1) % 125] * 8) for at in range(125)])
        swift = Machine([(at == 123, [(at + 1) % 124] * 8) for at in range(124)])
        self.assertEqual(self.comes_soon(lambda: slow.apart(swift)), Word("A" * 247))
        climbing = Machine([
            (at == 249, [min(at + 1, 249) if place == at % 4 else max(at - 1, 0) for place in range(8)]) for at in range(250)
        ])
        self.assertEqual(self.comes_soon(climbing.first), Word(("ABCD" * 63)[:249]))
        self.assertEqual(self.comes_soon(climbing.least), climbing)


class Counting(Case):
    def test_against_each_other(self):
        for machine in some_machines() + [ENDS_A, EVEN]:
            found = taken(machine, 5)
            for many in range(6):
                listed = list(machine.listed(many))
                wanted = sorted(letters for letters in found if len(letters) == many)
                self.assertEqual([word.letters for word in listed], wanted)
                self.assertEqual(machine.counted(many), len(wanted))

    def test_many_letters(self):
        for many in range(61):
            all_words = 1 if many == 0 else 8 * 7 ** (many - 1)
            self.assertEqual(everything().counted(many=many), all_words)
            self.assertEqual(EVEN.counted(many), 0 if many % 2 else all_words)
            self.assertEqual(ENDS_A.counted(many), all_words // 8)
            self.assertEqual(nothing().counted(many), 0)
            self.assertEqual(of_letters("ABcd").counted(many), 4 ** many)
        for machine in some_machines():
            told = self.comes_soon(lambda: machine.counted(60))
            self.assertEqual(told + (~machine).counted(60), 8 * 7 ** 59)

    def test_listed_twice(self):
        one, other = ENDS_A.listed(many=3), ENDS_A.listed(3)
        first = [next(one), next(one)]
        self.assertEqual(list(other), first + list(one))
        self.assertEqual(list(one), [])
        self.assertTrue(all(isinstance(word, Word) for word in ENDS_A.listed(3)))

    def test_bounds(self):
        for value in (*NOT_INTEGERS, -1, HUGE, -HUGE):
            self.refuses(BadNumber("many"), EVEN.counted, value)
            self.refuses(BadNumber("many"), lambda: list(EVEN.listed(value)))
            self.refuses(BadNumber("many"), lambda: next(EVEN.listed(value)))
        self.refuses(BadNumber("many"), EVEN.counted, 61)
        self.refuses(BadNumber("many"), lambda: list(EVEN.listed(6)))


class Least(Case):
    def check(self, machine):
        least = machine.least()
        rows = least.rows
        self.assertEqual(least, machine)
        self.assertEqual(classes_of(rows), len(rows))
        met = least_strings(rows)
        self.assertEqual(list(met), list(range(len(rows))))
        ordered = sorted(met.values(), key=lambda letters: (len(letters), letters))
        self.assertEqual(list(met.values()), ordered)
        for letters in strings(3):
            standing = least_standing(rows, letters)
            if not is_word(letters):
                self.assertEqual(rows[standing], (False, (standing,) * 8))
        self.assertEqual(least.least().rows, rows)
        self.assertLessEqual(least.standings, 8 * machine.standings + 2)
        return rows

    def test_what_it_must_be(self):
        for at, machine in enumerate(some_machines()):
            rows = self.check(machine)
            self.assertEqual(Machine(other_rows(machine.rows, at)).least().rows, rows)
        for machine in (EVEN, ENDS_A, powers(Word("Aba")), ENDS_A.turned(Word("bC")) ^ EVEN, ending(Word("AB"))):
            self.check(machine)

    def test_by_hand(self):
        self.assertEqual(nothing().least().rows, ((False, (0,) * 8),))
        self.assertEqual(up_to(0).least().rows, ((True, (1,) * 8), (False, (1,) * 8)))
        self.assertEqual(
            just_words([Word("A")]).least().rows,
            ((False, (1, 2, 2, 2, 2, 2, 2, 2)), (True, (2,) * 8), (False, (2,) * 8)),
        )
        self.assertEqual(
            just_words([Word("b"), Word("Ab")]).least().rows,
            ((False, (1, 2, 2, 2, 2, 3, 2, 2)), (False, (2, 2, 2, 2, 2, 3, 2, 2)), (False, (2,) * 8), (True, (2,) * 8)),
        )
        self.assertEqual(everything().least().rows, (
            (True, (1, 2, 3, 4, 5, 6, 7, 8)),
            (True, (1, 2, 3, 4, 9, 6, 7, 8)), (True, (1, 2, 3, 4, 5, 9, 7, 8)),
            (True, (1, 2, 3, 4, 5, 6, 9, 8)), (True, (1, 2, 3, 4, 5, 6, 7, 9)),
            (True, (9, 2, 3, 4, 5, 6, 7, 8)), (True, (1, 9, 3, 4, 5, 6, 7, 8)),
            (True, (1, 2, 9, 4, 5, 6, 7, 8)), (True, (1, 2, 3, 9, 5, 6, 7, 8)),
            (False, (9,) * 8),
        ))
        self.assertEqual(cone(Word("A")).least().rows, (
            (False, (1, 2, 2, 2, 2, 2, 2, 2)),
            (True, (1, 3, 4, 5, 2, 6, 7, 8)), (False, (2,) * 8),
            (True, (1, 3, 4, 5, 9, 2, 7, 8)), (True, (1, 3, 4, 5, 9, 6, 2, 8)), (True, (1, 3, 4, 5, 9, 6, 7, 2)),
            (True, (1, 2, 4, 5, 9, 6, 7, 8)), (True, (1, 3, 2, 5, 9, 6, 7, 8)), (True, (1, 3, 4, 2, 9, 6, 7, 8)),
            (True, (2, 3, 4, 5, 9, 6, 7, 8)),
        ))
        self.assertEqual(
            of_letters("AB").least().rows, ((True, (0, 0, 1, 1, 1, 1, 1, 1)), (False, (1,) * 8)),
        )
        self.assertEqual(of_letters("Aa").least().rows, (
            (True, (1, 2, 2, 2, 3, 2, 2, 2)), (True, (1, 2, 2, 2, 2, 2, 2, 2)),
            (False, (2,) * 8), (True, (2, 2, 2, 2, 3, 2, 2, 2)),
        ))
        self.assertEqual([EVEN.least().standings, lengths(3, [1]).least().standings], [18, 26])

    def test_many_standings(self):
        machine = Machine(told_rows(21, 250))
        least = self.comes_soon(machine.least)
        self.assertEqual(classes_of(least.rows), least.standings)
        self.assertEqual(least, machine)
        self.assertEqual(self.comes_soon(lambda: machine.turned(Word("ABcD" * 15)).turned(Word("dCba" * 15))), machine)


def least_standing(rows, letters):
    standing = 0
    for letter in letters:
        standing = rows[standing][1][LETTERS.index(letter)]
    return standing


class Chance(Case):
    def test_laws(self):
        thrown = random.Random(5)
        machines = some_machines()
        for _ in range(60):
            one, other, third = (thrown.choice(machines) for _ in range(3))
            word = Word.of("".join(thrown.choice(LETTERS) for _ in range(6)))
            self.assertEqual((one & other).turned(word), one.turned(word) & other.turned(word))
            self.assertEqual(one - other, one & ~other)
            self.assertEqual(one ^ other, (one | other) - (one & other))
            self.assertEqual((one | other) & third, (one & third) | (other & third))
            self.assertEqual((one | other).least().rows, (other | one).least().rows)


if __name__ == "__main__":
    unittest.main()
