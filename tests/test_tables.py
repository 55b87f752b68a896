import itertools
import unittest

from sevenball.errors import BadMachine, BadNumber, BadWord
from sevenball.look_tables import shows_compared, shows_just
from sevenball.made import behind, cone, ending, everything, lengths, nothing, powers
from sevenball.papers import Denial, Paper
from sevenball.pieces import Piece
from sevenball.points import Point
from sevenball.tables import Alike, Just, Uneven, Unlike, compared, count_at, counts, just, point_for, takers
from sevenball.words import Word
from tests.readings import mark_at, short_words, some_machines
from tests.values import EVEN, HUGE, NOT_INTEGERS, NOT_MACHINES, NOT_WORDS, Case, some_function

ODD = ~EVEN
SHORT = short_words(4)
LISTS = [
    [], [EVEN], (EVEN, ODD), [EVEN, ODD, EVEN], [cone(Word("A")), cone(Word("AB"))], some_machines(), some_machines()[2:5] * 2,
    (nothing(), everything()), [ending(Word("bA")), cone(Word("C")), ending(Word("A"))],
    [Piece(cone(Word("A")), Word("a")).landed, cone(Word("a"))], [powers(Word("cD")).turned(Word("a"))] * 3,
]
NOT_LISTS = [
    None, True, 0, HUGE, "", "even", {}, {0: EVEN}, EVEN, some_function, Word(), [EVEN] * 61, (EVEN,) * 100, [None] * 61,
]


def by_hand(machines, word):
    return sum(mark_at(machine.rows, word.letters) for machine in machines)


def least(words):
    return min(words, default=None)


class Counting(Case):
    def test_against_reading_by_hand(self):
        for machines, word in itertools.product(LISTS, short_words(2)):
            told = takers(machines=machines, word=word)
            self.assertEqual(told, tuple(at for at, one in enumerate(machines) if mark_at(one.rows, word.letters)))
            self.assertIs(type(told), tuple)
            self.assertEqual(count_at(machines=machines, word=word), len(told))
            self.assertIs(type(count_at(machines, word)), int)
        longest = Word("ABcD" * 1000)
        self.assertEqual(self.comes_soon(lambda: takers([EVEN, ODD] * 30, longest)), tuple(range(0, 60, 2)))

    def test_counts(self):
        for machines in LISTS:
            found = {}
            for word in SHORT:
                found.setdefault(by_hand(machines, word), word)
            told = counts(machines=machines)
            self.assertIs(type(told), tuple)
            self.assertTrue(all(type(pair) is tuple for pair in told))
            self.assertEqual([many for many, word in told], sorted(many for many, word in told))
            self.assertEqual([pair for pair in told if len(pair[1]) <= 4], sorted(found.items()))
            for many, word in told:
                self.assertEqual(by_hand(machines, word), many)
        self.assertEqual(counts([EVEN] * 60), ((0, Word("A")), (60, Word())))
        self.assertEqual(counts(()), ((0, Word()),))
        # All words are taken; strings that are no words have no count.
        self.assertEqual(counts([everything(), cone(Word())]), ((2, Word()),))
        far = [behind(Word("ABc"), ending(Word("Da"))), cone(Word("ABcD"))]
        self.assertEqual(counts(far), ((0, Word()), (1, Word("ABcD")), (2, Word("ABcDa"))))

    def test_many_rows(self):
        clocks = [lengths(modulus, [0]) for modulus in (7, 8, 9)]
        told = self.comes_soon(lambda: counts(clocks * 20))
        self.assertEqual([(many, len(word)) for many, word in told], [(0, 1), (20, 7), (40, 56), (60, 0)])
        self.assertEqual(self.comes_soon(lambda: compared(clocks * 20, clocks[::-1] * 20)), Alike())
        told = self.comes_soon(lambda: just(clocks * 20, clocks[0] | clocks[1] | clocks[2], 20))
        self.assertEqual(told, Uneven(Word(), 60))
        self.assertEqual(self.comes_soon(lambda: compared(clocks, [EVEN] * 60)), Unlike(Word(), 3, 60))


class JustSoMany(Case):
    def test_against_counting_by_hand(self):
        for machines, whole in itertools.product(LISTS, (EVEN, everything(), nothing(), cone(Word("A")), some_machines()[4])):
            for times in (0, 1, 2, 3):
                told = just(machines=machines, whole=whole, times=times)
                uneven = least(word for word in SHORT if by_hand(machines, word) != (times if whole.takes(word) else 0))
                if uneven is not None:
                    self.assertEqual(told, Uneven(uneven, by_hand(machines, uneven)))
                    self.assertIs(bool(told), False)
                elif told:
                    self.assertEqual(told, Just(times))
                    self.assertIs(told.times, times)
                else:
                    self.assertGreater(len(told.word), 4)
                    self.assertEqual(told.found, by_hand(machines, told.word))
                    self.assertNotEqual(told.found, times if whole.takes(told.word) else 0)

    def test_what_is_just(self):
        self.assertEqual(just([EVEN] * 60, EVEN, 60), Just(60))
        self.assertEqual(just([EVEN] * 59, EVEN, 60), Uneven(Word(), 59))
        for times in (0, 1, 60):
            self.assertEqual(just([], nothing(), times), Just(times))
            self.assertEqual(just([nothing()] * 3, nothing(), times), Just(times))
        self.assertEqual(just([nothing()], everything(), 0), Just(0))
        self.assertEqual(just([], cone(Word("dd")), 1), Uneven(Word("dd"), 0))
        self.assertEqual(just([cone(Word("dd"))], nothing(), 1), Uneven(Word("dd"), 1))
        # The first ball of all words: the cone of A where it is, that of a turned by A.
        ball = [cone(Word("A")), Piece(cone(Word("a")), Word("A")).landed]
        self.assertEqual(just(ball, everything(), 1), Just(1))
        turned = [machine.turned(Word("bC")) for machine in ball]
        self.assertEqual(just(turned, everything(), 1), Just(1))
        self.assertEqual(just(ball[:1], everything(), 1), Uneven(Word(), 0))

    def test_least_words_far_away(self):
        far = Word("ABcD" * 30)
        self.assertEqual(just([cone(far)], nothing(), 3), Uneven(far, 1))
        self.assertEqual(just([everything()], ~cone(far), 1), Uneven(far, 1))

    def test_wrong_arguments(self):
        for value in NOT_LISTS:
            self.refuses(BadMachine("machines"), takers, value, None)
            self.refuses(BadMachine("machines"), count_at, value, None)
            self.refuses(BadMachine("machines"), counts, value)
            self.refuses(BadMachine("machines"), just, value, None, None)
            self.refuses(BadMachine("machines"), compared, value, None)
            self.refuses(BadMachine("others"), compared, [EVEN], value)
            self.refuses(BadMachine("machines"), shows_just, value, None, None, None)
            self.refuses(BadMachine("machines"), shows_compared, value, None, None)
            self.refuses(BadMachine("others"), shows_compared, (), value, Alike())
        for value, at in itertools.product(NOT_MACHINES, range(3)):
            machines = [EVEN] * at + [value] + [ODD] * (2 - at)
            self.refuses(BadMachine("machines"), takers, machines, Word())
            self.refuses(BadMachine("machines"), counts, machines)
            self.refuses(BadMachine("machines"), just, tuple(machines), EVEN, 1)
            self.refuses(BadMachine("others"), compared, [EVEN], machines)
        for value in NOT_MACHINES:
            self.refuses(BadMachine("whole"), just, [EVEN], value, 1)
            self.refuses(BadMachine("whole"), just, [EVEN], value, None)
            self.refuses(BadMachine("whole"), shows_just, [EVEN], value, None, Just(1))
        for value in (*NOT_INTEGERS, -1, 61, HUGE, -HUGE):
            self.refuses(BadNumber("times"), just, [EVEN], EVEN, value)
            self.refuses(BadNumber("times"), shows_just, [EVEN], EVEN, value, Just(value))
        for value in NOT_WORDS:
            self.refuses(BadWord(0), takers, [EVEN], value)
            self.refuses(BadWord(0), count_at, [], value)

    def test_nothing_changes(self):
        machines = [EVEN, cone(Word("A"))]
        before = [machine.rows for machine in machines]
        takers(machines, Word()), counts(machines), just(machines, EVEN, 1), compared(machines, machines)
        shows_just(machines, EVEN, 1, Just(1)), shows_compared(machines, machines, Alike())
        self.assertEqual(len(machines), 2)
        self.assertEqual([machine.rows for machine in machines], before)


class Compared(Case):
    def test_against_counting_by_hand(self):
        for machines, others in itertools.product(LISTS, repeat=2):
            told = compared(machines=machines, others=others)
            unlike = least(word for word in SHORT if by_hand(machines, word) != by_hand(others, word))
            if unlike is not None:
                self.assertEqual(told, Unlike(unlike, by_hand(machines, unlike), by_hand(others, unlike)))
                self.assertIs(bool(told), False)
            elif told:
                self.assertEqual(told, Alike())
            else:
                self.assertGreater(len(told.word), 4)
                self.assertEqual([told.found, told.other], [by_hand(machines, told.word), by_hand(others, told.word)])

    def test_many(self):
        self.assertEqual(compared([EVEN] * 60, [EVEN] * 60), Alike())
        self.assertEqual(compared([EVEN] * 60, [EVEN] * 59), Unlike(Word(), 60, 59))
        self.assertEqual(compared([EVEN, ODD], (everything(),)), Alike())
        self.assertEqual(compared([], []), Alike())


class Shown(Case):
    def test_just(self):
        for value, wanted in (
            (Just(1), True), (Just(2), False), (Just(0), False), (Just(True), False), (Just("1"), False), (Just([1]), False),
            (Just(None), False), (Just(1.0), False), (Uneven(Word("A"), 1), False), (Uneven(Word(), 1), False),
            (Uneven(Word(), 2), False), (Just, False), (None, False), (True, False), (1, False), (Alike(), False),
            (Paper(), False), (Denial(), False), ("Just(1)", False), ((1,), False),
        ):
            self.assertIs(shows_just(machines=[EVEN, ODD], whole=everything(), times=1, value=value), wanted)
        self.assertIs(shows_just([], nothing(), 0, Just(False)), False)
        self.assertIs(shows_just([], nothing(), 0, Just(0)), True)

    def test_uneven(self):
        for machines, whole, times in itertools.product(LISTS, (EVEN, nothing(), cone(Word("A"))), (0, 1, 2)):
            told = just(machines, whole, times)
            self.assertIs(shows_just(machines, whole, times, told), True)
            self.assertIs(shows_just(machines, whole, times, Just(times)), bool(told))
            for word in short_words(2):
                found = by_hand(machines, word)
                uneven = found != (times if whole.takes(word) else 0)
                self.assertIs(shows_just(machines, whole, times, Uneven(word, found)), uneven)
                self.assertIs(shows_just(machines, whole, times, Uneven(word, found + 1)), False)
        for value in (Uneven("A", 0), Uneven(Word("A"), None), Uneven(Word("A"), "0"), Uneven(Word("A"), False),
                      Uneven(None, 0), Uneven([Word("A")], 0), Uneven(0, Word("A")), Uneven, Unlike(Word("A"), 0, 1),
                      Uneven(Word("A"), [0]), Uneven(Word("A"), -1), Uneven(Word("A"), HUGE)):
            self.assertIs(shows_just([EVEN], everything(), 1, value), False)
        self.assertIs(shows_just([EVEN], everything(), 1, Uneven(Word("A"), 0)), True)
        self.assertIs(shows_just([EVEN], everything(), 1, Uneven(Word("ABc" * 101), 0)), True)
        self.assertIs(shows_just([ODD], everything(), 0, Uneven(Word("A"), True)), False)

    def test_compared(self):
        for machines, others in itertools.product(LISTS[:8], repeat=2):
            told = compared(machines, others)
            self.assertIs(shows_compared(machines=machines, others=others, value=told), True)
            self.assertIs(shows_compared(machines, others, Alike()), bool(told))
            for word in short_words(1):
                found, other = by_hand(machines, word), by_hand(others, word)
                self.assertIs(shows_compared(machines, others, Unlike(word, found, other)), found != other)
                if found != other:
                    self.assertIs(shows_compared(machines, others, Unlike(word, other, found)), False)
                    self.assertIs(shows_compared(machines, others, Unlike(word, found, found)), False)
        for value in (Unlike("A", 0, 1), Unlike(Word("A"), False, 1), Unlike(Word("A"), 0, True), Unlike(Word("A"), 0, None),
                      Unlike(Word("A"), "0", 1), Unlike(None, 0, 1), Unlike, Alike, None, Uneven(Word("A"), 0), Just(1),
                      Unlike(Word("A"), 1, 0), Unlike(Word(), 0, 1), Unlike(Word("A"), 1, 1), Unlike(Word("A"), 2, 1),
                      Unlike(Word("A"), 0, 2), Unlike(Word("A"), 0, HUGE), [0, 1]):
            self.assertIs(shows_compared([EVEN], [ODD], value), False)
        self.assertIs(shows_compared([EVEN], [ODD], Unlike(Word("A"), 0, 1)), True)


class Points(Case):
    def test_point_for(self):
        for word in [Word(letters) for letters in ("", "A", "bC", "ABcD", "dd")]:
            for above, under in ((1, 1), (7, 1), (2, 4), (1, 7), (49, 14), (10 ** 400 - 1, 1), (3, 10 ** 400 - 1), (HUGE, HUGE)):
                point = Point(above, 0, 0, under).turned(word)
                self.assertEqual(point_for(word=word, radius=(above, under)), point)
                self.assertEqual(point_for(word, [above, under]), point)
                self.assertEqual(point.word, word)
            self.assertEqual(point_for(word), point_for(word, (1, 1)))
        self.assertEqual(point_for(Word("A"), (2, 4)).radius, (1, 2))
        longest = Word("ABcD" * 1000)
        self.assertEqual(self.comes_soon(lambda: point_for(longest, (3, 5))).word, longest)

    def test_wrong_arguments(self):
        for value in NOT_WORDS:
            self.refuses(BadWord(0), point_for, value)
            self.refuses(BadWord(0), point_for, value, None)
        for value in (None, True, 0, 1, "", "11", (), (1,), (1, 1, 1), [1] * 3, {1: 1, 2: 2}, {}, some_function, Word("AB"),
                      Point(1, 0, 0), [[1, 1]], EVEN):
            self.refuses(BadNumber("radius"), point_for, Word("A"), value)
        for value in (*NOT_INTEGERS, 0, -1, -HUGE, 10 ** 400, 10 ** 5000):
            self.refuses(BadNumber("radius"), point_for, Word("A"), (value, 1))
            self.refuses(BadNumber("radius"), point_for, Word("A"), [1, value])


class Papers(Case):
    def test_what_they_keep(self):
        values = [Word("A"), None, [1], {1: (2,)}, some_function]
        for shape, names, base in (
            (Just, ["times"], Paper), (Uneven, ["word", "found"], Denial),
            (Alike, [], Paper), (Unlike, ["word", "found", "other"], Denial),
        ):
            self.assertEqual(shape.__bases__, (base,))
            for at in range(len(values)):
                told = [values[(at + k) % len(values)] for k in range(len(names))]
                for paper in (shape(*told), shape(**dict(zip(names, told)))):
                    self.assertEqual([getattr(paper, name) is value for name, value in zip(names, told)], [True] * len(names))
                    self.assertIs(bool(paper), base is Paper)
                    self.assertEqual(paper, shape(*told))
                    if names:
                        self.assertNotEqual(paper, shape(*told[:-1], "other"))
            for other in (None, 1, Paper(), Denial(), shape, "Alike", (), Uneven(1, 2) if shape is Unlike else Unlike(1, 2, 3)):
                self.assertIs(shape(*range(len(names))) == other, False)


if __name__ == "__main__":
    unittest.main()
