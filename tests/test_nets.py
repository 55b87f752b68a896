import itertools
import random

from sevenball.errors import BadLot, BadWord, TooMany
from sevenball.nets import net_in, net_of
from sevenball.words import Word
from tests.readings import LETTERS, least_strings, short_words, struck, undone
from tests.values import HUGE, NOT_WORDS, Case, some_function

NONE = [None] * 8


def words(*rows):
    return [Word(row) for row in rows]


def thrown_word(thrown, size):
    letters = ""
    while len(letters) < size:
        letter = thrown.choice(LETTERS)
        if letter.swapcase() != letters[-1:]:
            letters += letter
    return Word(letters)


def thrown_words(seed, most=5, size=5):
    thrown = random.Random(seed)
    return [thrown_word(thrown, thrown.randrange(size)) for _ in range(thrown.randrange(most))]


def products(told, most=9, many=4000):
    """The letters of some products of words and their undoings, struck out on the way to at most so many letters."""
    met, row = {""}, [""]
    steps = [letters for word in told for letters in (word.letters, undone(word.letters)) if letters]
    for one in row:
        for step in steps:
            letters = struck(one + step)
            if letters not in met and len(letters) <= most and len(met) < many:
                met.add(letters)
                row.append(letters)
    return met


def led(net, letters):
    place = 0
    for letter in letters:
        place = None if place is None else net[place][LETTERS.index(letter)]
    return place


def ring(many, letters="AB"):
    """Rows by which a ring of so many places leads around."""
    rows = [list(NONE) for _ in range(many)]
    for at in range(many):
        letter, to = LETTERS.index(letters[at % len(letters)]), (at + 1) % many
        rows[at][letter], rows[to][(letter + 4) % 8] = to, at
    return rows


def put_anew(rows, seed):
    """The same rows with other numbers of places, 0 still the first."""
    order = list(range(1, len(rows)))
    random.Random(seed).shuffle(order)
    places = [0, *order]
    found = [None] * len(rows)
    for at, row in enumerate(rows):
        found[places[at]] = [None if to is None else places[to] for to in row]
    return found


class Nets(Case):
    def check(self, net):
        self.assertIs(type(net), tuple)
        for at, row in enumerate(net):
            self.assertIs(type(row), tuple)
            self.assertEqual(len(row), 8)
            self.assertTrue(at == 0 or sum(to is not None for to in row) >= 2)
            for letter, to in enumerate(row):
                self.assertTrue(to is None or net[to][(letter + 4) % 8] == at)
        strings = {at: "" for at in range(1)}
        queue = [0]
        for at in queue:
            for letter, to in zip(LETTERS, net[at]):
                if to is not None and to not in strings:
                    strings[to] = strings[at] + letter
                    queue.append(to)
        self.assertEqual(queue, list(range(len(net))))
        self.assertEqual(list(strings.values()), sorted(strings.values(), key=lambda row: (len(row), row)))

    def test_told_by_words(self):
        for seed in range(150):
            told = thrown_words(seed)
            net = net_of(words=told)
            self.check(net)
            for letters in products(told):
                self.assertEqual(led(net, letters), 0)
            # The same lot told otherwise.
            other = [~word for word in told[::-1]] + [Word()] + [one * two for one, two in zip(told, told[1:])] + told[:1]
            self.assertEqual(net_of(tuple(other)), net)
        for told, wanted in (
            ([], 1), ([Word()], 1), (words("A"), 1), (words("AA"), 2), (words("ABa"), 2), (words("AB", "AC"), 2), (words("ABC"), 3),
            (words("AAAA", "AAAAAA"), 2), (words("ABab"), 4), (words("A", "ABa"), 1), (words("AB", "ABA"), 1),
        ):
            self.assertEqual(len(net_of(told)), wanted)
        self.assertEqual(net_of(words("AA")), ((1, None, None, None, 1, None, None, None), (0, None, None, None, 0, None, None, None)))

    def test_which_words_lie_in_it(self):
        # By hand: words of A and B with as many letters A, counted with signs, as threes tell.
        net = net_of(words("AAA", "B", "ABa", "AABaa"))
        for word in short_words(4):
            inside = all(letter in "ABab" for letter in word.letters)
            many = word.letters.count("A") - word.letters.count("a")
            self.assertIs(led(net, word.letters) == 0, inside and many % 3 == 0)

    def test_bounds(self):
        thrown = random.Random(5)
        told = [thrown_word(thrown, 20) for _ in range(20)]
        net = self.comes_soon(lambda: net_of(told))
        self.check(net)
        self.refuses(TooMany("words", 20), net_of, [*told, Word()])
        self.refuses(TooMany("words", 20), net_of, [told[0] * Word("AB")] * 21)
        self.refuses(TooMany("letters", 20), net_of, [*told[:19], thrown_word(thrown, 21)])
        for value in (*NOT_WORDS, Word("A")):
            if value != ():
                self.refuses(BadWord(0), net_of, value)
        for value, at in itertools.product(NOT_WORDS, (0, 2)):
            self.refuses(BadWord(0), net_of, [Word("A" * 30)] * at + [value] + [Word()] * 30)

    def test_rows(self):
        for seed in range(60):
            told = thrown_words(seed, 5, 7)
            net = net_of(told)
            for at in range(3):
                self.assertEqual(net_in(rows=put_anew(net, at)), net)
            # A way off, at the end of which nothing leads on, is no part of the net.
            free = [(at, letter) for at, row in enumerate(net) for letter, to in enumerate(row) if to is None]
            for at, letter in free[:5]:
                rows = [list(row) for row in net] + [list(NONE), list(NONE)]
                rows[at][letter], rows[-2][(letter + 4) % 8] = len(net), at
                rows[-2][letter], rows[-1][(letter + 4) % 8] = len(net) + 1, len(net)
                self.assertEqual(net_in(put_anew(rows, seed)), net)
        self.assertEqual(net_in([NONE]), net_of([]))
        self.assertEqual(net_in([[0] * 8]), net_of(words("A", "B", "C", "D")))
        self.assertEqual(len(self.comes_soon(lambda: net_in(ring(200)))), 200)
        self.check(net_in(ring(200, "ABcD")))
        self.refuses(BadLot("rows"), net_in, ring(202))
        self.refuses(BadLot("rows"), net_in, ring(201, "A"))

    def test_what_are_no_rows(self):
        right = [list(row) for row in net_of(words("AB", "AC"))]
        self.assertEqual(net_in(right), net_of(words("AB", "AC")))
        for value in (None, True, 0, HUGE, "", "rows", (), [], {}, {0: NONE}, some_function, Word("A"), [None], [0], [[]], [NONE[:7]],
                      [NONE + [None]], [{}], ["ABCDabcd"], [[None] * 8, [None] * 8], [[1] + [None] * 7, [None] * 8]):
            self.refuses(BadLot("rows"), net_in, value)
        for at, place in itertools.product(range(2), range(8)):
            for value in (True, False, 2, -1, HUGE, "0", "", [], (0,), some_function, Word(), 1 - at if right[at][place] is None else None):
                rows = [list(row) for row in right]
                rows[at][place] = value
                self.refuses(BadLot("rows"), net_in, rows)
        self.refuses(BadLot("rows"), net_in, [*right, NONE])
        self.refuses(BadLot("rows"), net_in, [[0, None, None, None, None, None, None, None]])
        self.assertEqual(least_strings([(0, [0] * 8)]), {0: ""})
        before = [list(row) for row in right]
        net_in(right)
        self.assertEqual(right, before)
