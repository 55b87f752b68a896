import itertools
import unittest

from sevenball.errors import BadLetter, BadMachine, BadNumber, BadWord, TooMany
from sevenball.machines import Machine
from sevenball.made import (
    behind, cone, ending, everything, just_words, lengths, nothing, of_letters, powers, up_to, weighed,
)
from sevenball.words import Word
from tests.readings import LETTERS, short_words, some_machines
from tests.values import EVEN, HUGE, NOT_INTEGERS, NOT_MACHINES, NOT_STRINGS, NOT_WORDS, Case, some_function

SHORT = short_words(4)
WORDS = [Word(letters) for letters in ("", "A", "d", "AB", "Aba", "AA", "bCB", "AbAb", "ABAA", "AAbA", "CdcD", "aaaa")]
LONGEST = Word("ABcD" * 1000)


class Made(Case):
    def takes_just(self, machine, is_in, words=None):
        self.assertIs(type(machine), Machine)
        for word in SHORT if words is None else words:
            self.assertIs(machine.takes(word), is_in(word), word.letters)

    def test_everything_and_nothing(self):
        self.takes_just(everything(), lambda word: True)
        self.takes_just(nothing(), lambda word: False)

    def test_cone_and_ending(self):
        for told in WORDS:
            self.takes_just(cone(word=told), lambda word: word.letters.startswith(told.letters))
            self.takes_just(ending(word=told), lambda word: word.letters.endswith(told.letters))
        self.assertEqual(cone(Word()), everything())
        self.assertEqual(ending(Word()), everything())
        for value in NOT_WORDS:
            self.refuses(BadWord(0), cone, value)
            self.refuses(BadWord(0), ending, value)

    def test_endings_that_overlap(self):
        for letters in ("ABAB", "AABA", "AAAA", "ABABAcABAB", "ABcABcABd"):
            told = ending(Word(letters))
            for ahead in ("", "A", "AB", "ABA", "ABAB", "AAA", "ABABAc", "ABcABc", "ABcABcA", "cABABAc"):
                for many in range(len(letters) + 1):
                    row = ahead + letters[many:]
                    if all(one.swapcase() != other for one, other in zip(row, row[1:])):
                        self.assertIs(told.takes(Word(row)), row.endswith(letters))

    def test_long_words(self):
        for make in (cone, ending, powers):
            machine = self.comes_soon(lambda: make(LONGEST))
            self.assertIs(machine.takes(LONGEST), True)
            self.assertIs(machine.takes(LONGEST[:3999]), False)
            self.assertIs(machine.takes(LONGEST[1:]), False)
            self.assertIs(self.comes_soon(lambda: machine.least() == machine), True)
        self.assertEqual(self.comes_soon(lambda: cone(LONGEST).turned(~LONGEST)), ~cone(Word("d")))
        self.assertEqual(self.comes_soon(lambda: (cone(LONGEST) & ending(LONGEST)).first()), LONGEST)
        self.assertEqual(behind(LONGEST, everything()), cone(LONGEST))

    def test_just_words(self):
        lists = [[], [Word()], WORDS, tuple(WORDS[3:]), [Word("A"), Word(), Word("A")], [Word("AB"), Word("A"), Word("ABA")],
                 SHORT[:30], SHORT[70:100]]
        for words in lists:
            letters = [word.letters for word in words]
            self.takes_just(just_words(words=words), lambda word: word.letters in letters)
            self.assertEqual(sum(just_words(words).counted(many) for many in range(8)), len(set(letters)))
        words = [Word("A"), Word("B")]
        machine = just_words(words)
        words.pop()
        self.assertIs(machine.takes(Word("B")), True)
        for value in (*NOT_WORDS, Word("A")):
            if value != ():
                self.refuses(BadWord(0), just_words, value)
        for value in NOT_WORDS:
            for at in range(3):
                self.refuses(BadWord(0), just_words, [Word("A")] * at + [value] + [Word("B")] * (2 - at))
            self.refuses(BadWord(0), just_words, [Word("A")] * 40 + [value])
        self.refuses(TooMany("words", 30), just_words, [Word("A")] * 31)
        self.refuses(TooMany("words", 30), just_words, (Word(),) * 100)
        many = [LONGEST[at:] for at in range(30)]
        told = self.comes_soon(lambda: just_words(many))
        self.assertTrue(all(told.takes(word) for word in many))
        self.assertEqual(self.comes_soon(told.first), many[-1])

    def test_up_to(self):
        for many in range(6):
            self.takes_just(up_to(many=many), lambda word: len(word) <= many)
        for many in range(21):
            self.assertEqual([bool(up_to(many).counted(more)) for more in range(23)], [more <= many for more in range(23)])
        for value in (*NOT_INTEGERS, -1, 21, HUGE, -HUGE):
            self.refuses(BadNumber("many"), up_to, value)

    def test_lengths(self):
        for modulus in range(1, 13):
            for rests in ([], [0], [modulus - 1], (0, modulus // 2), [modulus - 1] * 12, list(range(modulus))):
                told = lengths(modulus=modulus, rests=rests)
                for many in range(25):
                    self.assertIs(told.takes(Word("A" * many)), many % modulus in rests)
                self.takes_just(told, lambda word: len(word) % modulus in rests, SHORT[:80])

    def test_wrong_rests(self):
        def by_weights(modulus, rests):
            return weighed((1, 0, -1, 2), modulus, rests)
        for call in (lengths, by_weights):
            for value in (*NOT_INTEGERS, 0, -1, 13, HUGE, -HUGE):
                self.refuses(BadNumber("modulus"), call, value, [0])
                self.refuses(BadNumber("modulus"), call, value, None)
            for value in (None, True, 0, 1, "", "0", {}, {0: 0}, some_function, Word(), EVEN, [0] * 13, [None], [True],
                          [0, False], ["0"], [-1], [3], (0, 3), [[0]], [HUGE], [0, 1, 2, -1]):
                self.refuses(BadNumber("rests"), call, 3, value)
            self.refuses(BadNumber("rests"), call, 1, [1])
            self.assertEqual(call(12, list(range(12))), everything())

    def test_weighed(self):
        for weights in ((1, 0, 0, 0), [1, 1, 1, 1], (0, 0, 0, 0), [-100, 100, 7, -3], (2, -1, 5, 3)):
            steps = dict(zip(LETTERS, [*weights, *[-weight for weight in weights]]))
            for modulus, rests in ((3, [1]), (1, [0]), (12, [0, 11, 11]), (7, (2, 5)), (5, [])):
                told = weighed(weights=weights, modulus=modulus, rests=rests)
                self.takes_just(told, lambda word: sum(steps[letter] for letter in word) % modulus in rests, SHORT[:500])
        self.assertIs(weighed((1, 0, 0, 0), 3, [2]).takes(Word("a")), True)
        self.assertIs(weighed((-1, 0, 0, 0), 3, [2]).takes(Word("A")), True)

    def test_wrong_weights(self):
        for value in (None, True, 0, "", "1234", {}, {1: 1, 2: 2, 3: 3, 4: 4}, (), (1, 1, 1), (1,) * 5, some_function, EVEN):
            self.refuses(BadNumber("weights"), weighed, value, 2, [0])
            self.refuses(BadNumber("weights"), weighed, value, 0, None)
        for at in range(4):
            for value in (*NOT_INTEGERS, 101, -101, HUGE, -HUGE):
                weights = [1, 2, 3, 4]
                weights[at] = value
                self.refuses(BadNumber("weights"), weighed, weights, 2, [0])
        self.refuses(BadNumber("modulus"), weighed, (1, 1, 1, 1), 13, None)

    def test_of_letters(self):
        for letters in ("", "A", "Aa", "ABCD", "abAB", "AAAA", LETTERS, "dD" * 50):
            self.takes_just(of_letters(letters=letters), lambda word: all(letter in letters for letter in word))
        for value in (*NOT_STRINGS, "E", "AE", "EA", " ", "A B", "-", "A" * 101, "\u0391"):
            with self.assertRaises(BadLetter) as caught:
                of_letters(value)
            self.assertIs(caught.exception.value, value)

    def test_powers(self):
        for told in WORDS + [Word("ABCba"), Word("AbCABcBa")]:
            some = {told.power(many).letters for many in range(12)}
            self.takes_just(powers(word=told), lambda word: word.letters in some)
            for many in range(8):
                power = told.power(many)
                self.assertIs(powers(told).takes(power), True)
                for letter in LETTERS:
                    for near in (power * Word(letter), Word(letter) * power, power[:-1], power[1:]):
                        self.assertIs(powers(told).takes(near), near.letters in some)
                if len(told) > 0 and many > 0:
                    self.assertIs(powers(told).takes(~power), False)
        self.assertEqual(powers(Word()), up_to(0))
        self.assertIs(powers(Word("AB" * 10)).takes(Word("AB" * 2000)), True)
        self.assertIs(powers(Word("AB" * 3)).takes(Word("AB" * 1999)), False)
        for value in NOT_WORDS:
            self.refuses(BadWord(0), powers, value)

    def test_behind(self):
        for told, machine in itertools.product(WORDS, some_machines()[2:] + [everything(), up_to(0), cone(Word("a"))]):
            some = {(told * word).letters for word in SHORT if machine.takes(word) and told.fits(word)}
            self.takes_just(behind(word=told, machine=machine), lambda word: word.letters in some)
        self.assertEqual(behind(Word("A"), cone(Word("a"))), nothing())
        self.assertEqual(behind(Word(), EVEN), EVEN)
        for value in NOT_WORDS:
            self.refuses(BadWord(0), behind, value, EVEN)
            self.refuses(BadWord(0), behind, value, None)
        for value in NOT_MACHINES:
            self.refuses(BadMachine("machine"), behind, Word("A"), value)

    def test_nothing_changes(self):
        rests, weights = [0, 1], [1, 2, 3, 4]
        lengths(5, rests), weighed(weights, 5, rests)
        self.assertEqual((rests, weights), ([0, 1], [1, 2, 3, 4]))
        machine = some_machines()[4]
        before = machine.rows
        behind(Word("AB"), machine)
        self.assertEqual(machine.rows, before)


if __name__ == "__main__":
    unittest.main()
