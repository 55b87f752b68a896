import itertools

from sevenball.balls import are_apart, cone_cut, tops_of, twin
from sevenball.cuts import come_to, moved_by
from sevenball.errors import BadNumber, BadPiece, BadWord, TooMany
from sevenball.look_cuts import shows_cut
from sevenball.made import cone
from sevenball.pieces import Cut
from sevenball.words import Word
from tests.readings import LETTERS, mark_at, short_words, struck, undone
from tests.values import HUGE, NOT_INTEGERS, NOT_WORDS, Case

SHORT = short_words(3)
LONG = Word("ABcD" * 10)


def words(*rows):
    return [Word(row) for row in rows]


def apart(rows):
    return not any(one.startswith(other) for (at, one), (to, other) in itertools.product(enumerate(rows), repeat=2) if at != to)


def are_tops(word, tops):
    every = [top.letters for top in tops] + [top.letters[:-1] + top.letters[-1:].swapcase() for top in tops]
    return (all(len(top) and top.letters[-1] != top.letters[-2:-1] for top in tops) and apart(every)
            and all(row.startswith(word.letters) for row in every))


def place_by_hand(cut, letters):
    """Where a word goes, read in the rows of the cut."""
    colour = mark_at(cut.painted.rows, letters)
    if colour == 0:
        return None
    turn, ball = cut.turns[colour - 1]
    return ball, struck(turn.letters + letters)


class Twins(Case):
    def test_words(self):
        for word in SHORT:
            if word == Word() or word.letters[-1] == word.letters[-2:-1]:
                self.refuses(BadWord(0), twin, word)
                continue
            self.assertEqual(twin(word=word).letters, word.letters[:-1] + word.letters[-1].swapcase())
            self.assertEqual(twin(twin(word)), word)
        self.assertEqual(twin(Word("ABcD" * 1000)), Word("ABcD" * 999 + "ABcd"))
        for value in NOT_WORDS:
            self.refuses(BadWord(0), twin, value)

    def test_apart(self):
        for at in range(300):
            row = [SHORT[(at * 37 + k * (at + 11)) % len(SHORT)] for k in range(at % 5)]
            self.assertIs(are_apart(words=row), apart([word.letters for word in row]))
            self.assertIs(are_apart(tuple(row[::-1])), apart([word.letters for word in row]))
        thirty = short_words(2)[9:39]
        self.assertIs(are_apart(thirty), True)
        self.assertIs(are_apart([*thirty[:29], Word("A")]), False)
        self.assertIs(are_apart([Word("ABA"), Word("AC"), Word("AB")]), False)
        self.assertIs(are_apart([Word("AB"), Word("AC"), Word("AB")]), False)
        self.assertIs(are_apart([Word("AB"), Word("ABab")]), False)

    def test_what_is_no_list_of_words(self):
        for value in (*NOT_WORDS, Word("A"), short_words(2)[9:40], [Word()] * 31):
            if value != ():
                self.refuses(BadWord(0), are_apart, value)
        for value, at in itertools.product(NOT_WORDS, range(3)):
            self.refuses(BadWord(0), are_apart, [Word("A")] * at + [value] + [Word("B")] * (2 - at))


class Tops(Case):
    def test_that_they_are_tops(self):
        ends = [Word(), *short_words(2), Word("AAA"), LONG[:23], LONG[:24]]
        for word, count in itertools.product(ends, range(1, 13)):
            told = tops_of(word=word, count=count)
            self.assertIs(type(told), tuple)
            self.assertEqual(len(told), count)
            self.assertTrue(are_tops(word, told))
            self.assertLessEqual(max(len(top) for top in told), len(word) + 16)
            self.assertEqual(tops_of(Word(word.letters), count), told)

    def test_wrong_arguments(self):
        for value in NOT_WORDS:
            self.refuses(BadWord(0), tops_of, value, None)
        for value in (*NOT_INTEGERS, 0, 13, -1, HUGE, -HUGE):
            self.refuses(BadNumber("count"), tops_of, Word(), value)
            self.refuses(BadNumber("count"), tops_of, LONG, value)
        self.refuses(TooMany("letters", 24), tops_of, LONG[:25], 1)


class ConeCut(Case):
    def check(self, word, tops, most=3):
        cut = self.comes_soon(lambda: cone_cut(word=word, tops=tops))
        self.assertIs(type(cut), Cut)
        self.assertEqual(sorted(ball for turn, ball in cut.turns), sorted(2 * list(range(len(tops)))))
        self.assertLessEqual(max(len(turn) for turn, ball in cut.turns), 200)
        for ball, top in enumerate(tops):
            for behind in ("", top.letters[-1], *[letter for letter in "ABc" if letter.swapcase() != top.letters[-1]]):
                self.assertEqual(moved_by(cut, Word(top.letters + behind)), (ball, Word(top.letters + behind)))
        for behind in short_words(most):
            letters = struck(word.letters + behind.letters)
            self.assertIs(moved_by(cut, Word(letters)) is not None, letters.startswith(word.letters))
            told = moved_by(cut, Word(letters))
            self.assertEqual(None if told is None else (told[0], told[1].letters), place_by_hand(cut, letters))
        for ball, goal in itertools.product(range(len(tops)), short_words(most - 1)):
            come = [struck(undone(turn.letters) + goal.letters) for turn, its in cut.turns if its == ball]
            come = [letters for letters in come if place_by_hand(cut, letters) == (ball, goal.letters)]
            self.assertEqual(len(come), 1)
            self.assertEqual([one.letters for one in come_to(cut, ball, goal)], come)
            self.assertTrue(come[0].startswith(word.letters))
        return cut

    def test_few_tops(self):
        for word, rows in (
            ("A", ("AB", "AAC")), ("", ("A",)), ("", ("B", "AB", "ADC")), ("", ("ABcD",)), ("Ab", ("Abc",)), ("c", ("cB", "ccB")),
            ("", ("d", "Ab")), ("A", ("AAB", "AB")), ("A", ("ABA", "AD")), ("", ("AB", "aC", "BA", "cd")),
        ):
            cut = self.check(Word(word), words(*rows), 4)
            if len(rows) <= 6:
                self.assertIs(shows_cut(cone(Word(word)), len(rows), cut), True)

    def test_told_tops(self):
        for letters, count in (("", 1), ("", 12), ("A", 3), ("ABc", 12), ("BB", 6), ("ABcD" * 6, 12)):
            self.check(Word(letters), tops_of(Word(letters), count))

    def test_long_tops(self):
        self.check(LONG[:39], [LONG[:40]])
        ends = [LONG[:39 - at] * Word("B" if LONG.letters[38 - at] in "AaCc" else "A") for at in range(1, 36, 3)]
        ends = [end for at, end in enumerate(ends) if are_tops(Word(), ends[:at + 1])]
        self.check(Word(), [*ends, LONG[:40]][-12:])
        self.check(Word("A"), [Word("A" * 38 + "BC"), *[Word("A" * at + "BD") for at in range(1, 12)]], 2)
        wide = [Word(one + (other + one) * 19 + "C") for one, other in itertools.permutations("ABab", 2)
                if one.swapcase() != other]
        self.check(Word(), [*wide, *words("D", "CD")], 2)

    def test_colours_by_the_facts(self):
        # What begins with a top or with another twin than the first one has its colour. Of what begins with the first
        # twin, what is left when s is undone as often as it can be is asked whether it begins with a top or twin.
        for word, rows in (
            ("", ("A",)), ("", ("B", "AB", "ADC")), ("", ("ABAB",)), ("A", ("ABA", "AD")), ("A", ("AAB", "AB", "ACB")),
            ("AB", ("ABAB", "ABAAB", "ABAC")), ("", ("AB", "aC", "BA", "cd")), ("aB", ("aBBBC", "aBA", "aBBd")),
        ):
            self.assertTrue(are_tops(Word(word), words(*rows)))
            cut = cone_cut(Word(word), words(*rows))
            ends = [letters for row in rows for letters in (row, row[:-1] + row[-1].swapcase())]
            ahead, again = rows[0][:-1], ends[1][-1]
            back = struck(ahead + again.swapcase() + undone(ahead))
            for at, behind in itertools.product(range(4), SHORT):
                letters = struck(ahead + again * at + undone(ahead) + word + behind.letters)
                begun = [index for index, end in enumerate(ends) if letters.startswith(end)]
                left = letters
                while left.startswith(ends[1]):
                    left = struck(back + left)
                wanted = 0
                if begun not in ([], [1]):
                    wanted = begun[0] + 1
                elif letters.startswith(word):
                    stays = left.startswith(word) and not any(left.startswith(end) for end in ends)
                    wanted = 1 if stays else 2
                self.assertEqual(mark_at(cut.painted.rows, letters), wanted, (word, rows, letters))
                self.assertEqual(cut.painted.colour_of(Word(letters)), wanted)

    def test_a_hundred_calls_come_within_a_second(self):
        wide = [Word(one + (other + one) * 19 + "C") for one, other in itertools.permutations("ABab", 2)
                if one.swapcase() != other] + words("D", "CD", "CCD", "CCCD")
        far = words(*[letter * 38 + end for letter, end in zip("ABCDabcd", "BCDABCDA")], "AB", "BC", "CD", "DA")
        for word, tops in (
            (Word(), [Word("A" * turn + "B") for turn in range(12)]), (Word(), wide), (Word(), far), (Word("ABc"), tops_of(Word("ABc"), 12)),
            (Word("AB"), [Word("AB" * 20)]), (Word(), [Word("AB" * 20)]), (LONG[:39], [LONG[:40]]),
        ):
            self.comes_soon(lambda: [cone_cut(word, tops) for _ in range(100)], 1)

    def test_equal_calls(self):
        tops = words("AB", "AAC")
        self.assertEqual(cone_cut(Word("A"), tops), cone_cut(Word("A"), tuple(tops)))
        self.assertEqual(tops, words("AB", "AAC"))
        self.assertIs(type(cone_cut(Word("A"), tops).turns), tuple)

    def test_refusals(self):
        for value in NOT_WORDS:
            self.refuses(BadWord(0), cone_cut, value, [Word("A" * 50)])
            self.refuses(BadWord(0), cone_cut, Word(), [Word("A"), value])
            if value != ():
                self.refuses(BadWord(0), cone_cut, Word(), value)
        for value in ([], (), Word("A"), [Word("A" * 41)] * 13, tops_of(Word(), 12) + (Word("AAAAAAAAAAAAAB"),)):
            self.refuses(BadWord(0), cone_cut, Word(), value)
        self.refuses(TooMany("letters", 40), cone_cut, Word("b"), [Word("A"), LONG * Word("A")])
        for word, rows in (
            ("A", ("AB", "AbC")), ("A", ("A",)), ("A", ("AB", "AB")), ("A", ("AB", "Ab")), ("", ("",)), ("", ("AA",)), ("", ("A", "AB")),
            ("A", ("AB", "BA")), ("AB", ("AB",)), ("A", ("AAA",)), ("A", ("ABC", "AB")), ("", ("A", "B", "aC")), ("ABcDABc", ("AB",)),
        ):
            self.assertFalse(are_tops(Word(word), words(*rows)))
            self.refuses(BadPiece("tops"), cone_cut, Word(word), words(*rows))
            self.refuses(BadPiece("tops"), cone_cut, tops=tuple(words(*rows)), word=Word(word))
        self.refuses(BadPiece("tops"), cone_cut, LONG * LONG, [LONG])
        self.assertEqual(len(LETTERS), 8)
