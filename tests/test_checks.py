import unittest

from sevenball.checks import LETTERS, is_integer, is_letter, is_within, undoing
from sevenball.errors import BadLetter
from tests.values import HUGE, NOT_INTEGERS, NOT_STRINGS, Case


class Checks(Case):
    def test_integers(self):
        for value in (0, 1, -1, HUGE, -HUGE):
            self.assertIs(is_integer(value), True)
        for value in NOT_INTEGERS:
            self.assertIs(is_integer(value), False)

    def test_bounds(self):
        for value, least, most, wanted in (
            (0, 0, 3, True), (3, 0, 3, True), (-1, 0, 3, False), (4, 0, 3, False),
            (HUGE, 0, HUGE, True), (HUGE + 1, 0, HUGE, False), (0, 1, 0, False), (-2, -2, -2, True),
        ):
            self.assertIs(is_within(value, least, most), wanted)
            self.assertIs(is_within(value=value, least=least, most=most), wanted)
        for value in NOT_INTEGERS:
            self.assertIs(is_within(value, -HUGE, HUGE), False)

    def test_letters(self):
        self.assertEqual(LETTERS, "ABCDabcd")
        for letter in "ABCDabcd":
            self.assertIs(is_letter(letter), True)
        for value in [*NOT_STRINGS, "", "AB", "ABCDabcd", "E", "e", " ", "-", "A ", "\n", "\u00c4"]:
            self.assertIs(is_letter(value), False)

    def test_undoing(self):
        self.assertEqual([undoing(letter) for letter in "ABCDabcd"], list("abcdABCD"))
        self.assertEqual(undoing(letter="c"), "C")
        for value in [*NOT_STRINGS, "", "AB", "E", "e", "-"]:
            with self.assertRaises(BadLetter) as caught:
                undoing(value)
            self.assertIs(caught.exception.value, value)


if __name__ == "__main__":
    unittest.main()
