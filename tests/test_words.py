import itertools
import unittest

from sevenball.errors import BadNumber, BadText, BadWord, TooMany
from sevenball.words import Word, commute, number_of, word_at, words_of
from tests.values import HUGE, NOT_INTEGERS, NOT_STRINGS, NOT_WORDS, Case

LETTERS = "ABCDabcd"
LONGEST = "AB" * 2000
TOO_LONG = TooMany("letters", 4000)
SOME = [
    Word(letters) for letters in
    ("", "A", "a", "d", "AB", "Ba", "ABc", "CbA", "ABAB", "baba", "ABCAba", "AAAA", "dCbAdC", "ABcdABcd")
]


def strike(letters):
    """Takes out one pair after another, as the document tells it."""
    for at in range(len(letters) - 1):
        if letters[at].swapcase() == letters[at + 1]:
            return strike(letters[:at] + letters[at + 2:])
    return letters


def short_words(most):
    return [word for many in range(most + 1) for word in words_of(many)]


class Making(Case):
    def test_right_words(self):
        for letters in ("", "A", "d", "ABCDabcd", "AAAA", "ABab", LONGEST):
            self.assertEqual(Word(letters).letters, letters)
            self.assertEqual(Word(letters=letters).letters, letters)
        self.assertEqual(Word().letters, "")

    def test_what_is_no_string(self):
        for value in NOT_STRINGS:
            self.refuses(BadWord(0), Word, value)
            self.refuses(BadWord(0), Word.of, value)

    def test_wrong_signs(self):
        for sign in ("E", "e", "-", " ", "\n", "1", "\u00c4", "\u0391"):
            for letters, at in ((sign + "AB", 0), ("A" + sign + "B", 1), ("AB" + sign, 2), (sign, 0)):
                self.refuses(BadWord(at), Word, letters)
                self.refuses(BadWord(at), Word.of, letters)

    def test_undoings_side_by_side(self):
        for letters, at in (("aAB", 1), ("ABbC", 2), ("ABDd", 3), ("dD", 1), ("AaX", 1), ("XaA", 0), ("AXx", 1)):
            self.refuses(BadWord(at), Word, letters)

    def test_the_most_letters(self):
        self.assertEqual(len(Word(LONGEST)), 4000)
        self.refuses(TOO_LONG, Word, LONGEST + "A")
        self.refuses(BadWord(4001), Word, LONGEST + "AX")
        self.refuses(BadWord(4000), Word, LONGEST + "bA")
        self.refuses(BadWord(0), Word, "x" * 5000)

    def test_struck_out(self):
        self.assertEqual(Word.of("aABbcD"), Word("cD"))
        self.assertEqual(Word.of(letters="ABCcba"), Word())
        self.assertEqual(Word.of(""), Word())
        for row in itertools.product("ABab", repeat=6):
            self.assertEqual(Word.of("".join(row)).letters, strike("".join(row)))

    def test_struck_out_from_more_letters_than_a_word_has(self):
        self.assertEqual(Word.of(LONGEST + "Aa" * 3000).letters, LONGEST)
        self.assertEqual(Word.of("A" * 5000 + "a" * 4999).letters, "A")
        self.refuses(TOO_LONG, Word.of, LONGEST + "A")
        self.refuses(BadWord(4002), Word.of, LONGEST + "AAX")
        self.refuses(BadWord(2), Word.of, "AaX")
        self.refuses(BadWord(2), Word.of, "AaXx" + "A" * 5000)


class Products(Case):
    def test_products(self):
        for one, other in itertools.product(SOME, SOME):
            self.assertEqual((one * other).letters, strike(one.letters + other.letters))
            self.assertIs(one.fits(other), len(one * other) == len(one) + len(other))
        for one in SOME:
            self.assertEqual(one * ~one, Word())
            self.assertEqual(~~one, one)
            self.assertEqual((~one).letters, one.letters[::-1].swapcase())

    def test_the_longest_products(self):
        longest = Word(LONGEST)
        self.assertEqual(len(Word(LONGEST[:2000]) * Word(LONGEST[:2000])), 4000)
        self.refuses(TOO_LONG, lambda: longest * Word("A"))
        self.refuses(TOO_LONG, lambda: Word("A") * longest)
        self.assertEqual(len(longest * Word("b")), 3999)
        self.assertEqual(longest * ~longest, Word())
        self.assertEqual(~longest * longest, Word())
        self.assertEqual((longest * Word("ba" * 1000)).letters, LONGEST[:2000])

    def test_powers(self):
        for word in SOME:
            product = Word()
            for many in range(6):
                self.assertEqual(word.power(many), product)
                self.assertEqual(word.power(-many), ~product)
                product = product * word

    def test_great_powers(self):
        self.assertEqual(Word().power(HUGE), Word())
        self.assertEqual(Word().power(-HUGE), Word())
        for word in SOME[1:]:
            self.refuses(TOO_LONG, word.power, HUGE)
            self.refuses(TOO_LONG, word.power, -HUGE)
        self.assertEqual(Word("A").power(4000).letters, "A" * 4000)
        self.assertEqual(Word("A").power(-4000).letters, "a" * 4000)
        self.refuses(TOO_LONG, Word("A").power, 4001)
        self.refuses(TOO_LONG, Word("A").power, -4001)
        self.assertEqual(Word("BAb").power(3998).letters, "B" + "A" * 3998 + "b")
        self.refuses(TOO_LONG, Word("BAb").power, many=3999)
        self.assertEqual(Word(LONGEST).power(-1), ~Word(LONGEST))
        self.refuses(TOO_LONG, Word(LONGEST).power, 2)

    def test_what_is_no_word_or_integer(self):
        word = Word("AB")
        for value in NOT_WORDS:
            self.refuses(BadWord(0), lambda: word * value)
            for call in (word.fits, word.begins, word.ends, word.meet, number_of):
                self.refuses(BadWord(0), call, value)
            self.refuses(BadWord(0), commute, value, word)
            self.refuses(BadWord(0), commute, word, value)
        for value in NOT_INTEGERS:
            self.refuses(BadNumber("many"), word.power, value)

    def test_nothing_changes(self):
        letters = "ABc"
        one, other = Word(letters), Word("CbA")
        one * other, ~one, one.power(3), one.meet(other), one.root(), one.core(), one[1:], one < other
        one.begins(other), one.ends(other), one.fits(other), commute(one, other), number_of(one), list(one)
        self.assertEqual([one.letters, other.letters, letters], ["ABc", "CbA", "ABc"])


class Parts(Case):
    def test_beginnings_and_tails(self):
        for one, other in itertools.product(SOME, SOME):
            size = len(other)
            self.assertIs(one.begins(other), one.letters[:size] == other.letters)
            self.assertIs(one.ends(other), size == 0 or one.letters[-size:] == other.letters)
            met = [k for k in range(min(len(one), size) + 1) if one.letters[:k] == other.letters[:k]]
            self.assertEqual(one.meet(other).letters, one.letters[:max(met)])
        self.assertIs(Word("A").begins(other=Word("AB")), False)
        self.assertIs(Word("B").ends(other=Word("AB")), False)
        self.assertEqual(Word("ABC").meet(other=Word("ABD")), Word("AB"))
        self.assertIs(Word("A").fits(other=Word("a")), False)

    def test_items(self):
        word = Word("ABcdA")
        self.assertEqual([word[at] for at in range(5)], list("ABcdA"))
        self.assertEqual(list(word), list("ABcdA"))
        self.assertEqual(len(word), 5)
        for at in (-1, -5, 5, 6, HUGE, -HUGE, *NOT_INTEGERS):
            self.refuses(BadNumber("at"), lambda: word[at])
        self.refuses(BadNumber("at"), lambda: Word()[0])

    def test_slices(self):
        word = Word("ABcABdC")
        bounds = [None, -HUGE, -8, -7, -3, -1, 0, 1, 3, 6, 7, 9, HUGE]
        for first, last, step in itertools.product(bounds, bounds, (None, 1, 2, 3, 7, -1, -2, -3)):
            letters = "ABcABdC"[first:last:step]
            at = [k for k in range(1, len(letters)) if letters[k] == letters[k - 1].swapcase()]
            if at:
                self.refuses(BadWord(at[0]), lambda: word[first:last:step])
            else:
                self.assertEqual(word[first:last:step], Word(letters))
        self.refuses(BadWord(1), lambda: Word("ABa")[::2])
        self.refuses(BadWord(2), lambda: Word("DABCbA")[::2])
        self.assertIsInstance(word[0:1], Word)

    def test_roots_and_cores(self):
        for word in short_words(4) + [Word("ABCAba"), Word("ABABAB"), Word("CABABc"), Word("ABa")]:
            if word == Word():
                continue
            coat, core = word.core()
            self.assertEqual(coat.letters + core.letters + (~coat).letters, word.letters)
            self.assertNotEqual(core.letters[0], core.letters[-1].swapcase())
            root, many = word.root()
            self.assertEqual(root.power(many), word)
            for size in range(1, len(root)):
                for times in range(1, len(word) + 1):
                    shorter = word[:size]
                    self.assertNotEqual(shorter.power(times), word)
        self.assertEqual(Word().core(), (Word(), Word()))
        self.assertEqual(Word().root(), (Word(), 0))
        self.assertEqual(Word("ABCAba").core(), (Word("AB"), Word("CA")))
        self.assertEqual(Word("CABABABc").root(), (Word("CABc"), 3))
        self.assertEqual(Word("AAAA").root(), (Word("A"), 4))
        self.assertEqual(Word("AABAAB").root(), (Word("AAB"), 2))
        self.assertEqual(Word("ABABA").root(), (Word("ABABA"), 1))
        self.assertEqual(Word(LONGEST).root(), (Word("AB"), 2000))
        self.assertIs(type(Word("A").root()), tuple)
        self.assertIs(type(Word("A").core()), tuple)

    def test_commuting(self):
        words = short_words(2) + SOME
        for one, other in itertools.product(words, words[:40]):
            self.assertIs(commute(one, other), one * other == other * one)
        self.assertIs(commute(Word(LONGEST), Word(LONGEST)), True)
        self.assertIs(commute(one=Word(LONGEST), other=Word("BA" * 2000)), False)
        self.assertIs(commute(Word(LONGEST), Word("ba" * 1500)), True)


class Order(Case):
    def test_order(self):
        words = short_words(3)
        keys = [(len(word), [LETTERS.index(letter) for letter in word]) for word in words]
        self.assertEqual(keys, sorted(keys))
        for at, one in enumerate(words[::7]):
            for to, other in enumerate(words[::7]):
                self.assertIs(one < other, at < to)
                self.assertIs(one <= other, at <= to)
                self.assertIs(one > other, at > to)
                self.assertIs(one >= other, at >= to)
                self.assertIs(one == other, at == to)
                self.assertIs(one != other, at != to)

    def test_other_values(self):
        for value in NOT_WORDS:
            self.assertIs(Word("A") == value, False)
            self.assertIs(value == Word("A"), False)
            self.assertIs(Word("A") != value, True)
        self.assertIs(Word() == "", False)

    def test_there_is_order_between_words_alone(self):
        for value in (None, "AB", 0, ("A",), [Word()]):
            for call in (
                lambda: Word("A") < value, lambda: Word("A") <= value,
                lambda: Word("A") > value, lambda: Word("A") >= value,
            ):
                self.assertRaises(TypeError, call)


class Numbers(Case):
    def test_words_of(self):
        for many, size in enumerate((1, 8, 56, 392, 2744)):
            words = list(words_of(many))
            self.assertEqual(len(words), size)
            rows = ["".join(row) for row in itertools.product(LETTERS, repeat=many)]
            self.assertEqual([word.letters for word in words], [row for row in rows if strike(row) == row])
        self.assertEqual(len(list(words_of(5))), 8 * 7 ** 4)
        self.assertEqual(len(list(words_of(many=6))), 8 * 7 ** 5)
        for value in (-1, 7, HUGE, -HUGE, *NOT_INTEGERS):
            self.refuses(BadNumber("many"), lambda: next(iter(words_of(value))))

    def test_there_and_back(self):
        for number, word in enumerate(short_words(4)):
            self.assertEqual(number_of(word), number)
            self.assertEqual(word_at(number), word)
        for number in (10 ** 60, 10 ** 60 - 1, 10 ** 59, 7 ** 70, 3 ** 100):
            self.assertEqual(number_of(word_at(number)), number)
        self.assertEqual(word_at(number=0), Word())
        self.assertEqual(number_of(word=Word("d")), 8)
        for value in (-1, 10 ** 60 + 1, HUGE, -HUGE, *NOT_INTEGERS):
            self.refuses(BadNumber("number"), word_at, value)

    def test_the_longest_word(self):
        number = self.comes_soon(lambda: number_of(Word("A" * 4000)))
        self.assertEqual(number, 1 + 8 * (7 ** 3999 - 1) // 6)


class Texts(Case):
    def test_there_and_back(self):
        for word in [*SOME, Word(LONGEST)]:
            self.assertEqual(Word.read(str(word)), word)
        self.assertEqual(str(Word()), "-")
        self.assertEqual(str(Word("ABc")), "ABc")
        self.assertEqual(Word.read(text="Ab"), Word("Ab"))

    def test_bent_texts(self):
        for text, item in (
            ("", 0), (" ", 0), ("A b", 1), ("- -", 1), ("A ", 1), (" A", 0), ("-A", 0), ("A-", 0), ("--", 0),
            ("Aa", 0), ("X", 0), ("Aa b", 0), ("A  b", 1), ("A\n", 0), ("A\tB", 0), ("A b C", 1), ("- ", 1),
            (LONGEST + "A", 0), (LONGEST + " A", 1),
        ):
            self.refuses(BadText(item), Word.read, text)
        for value in NOT_STRINGS:
            self.refuses(BadText(0), Word.read, value)


if __name__ == "__main__":
    unittest.main()
