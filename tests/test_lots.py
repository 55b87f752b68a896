import itertools
import random

from sevenball.errors import BadLot, BadWord, TooMany
from sevenball.lots import Lot
from sevenball.made import lengths, nothing, up_to
from sevenball.nets import net_of
from sevenball.papers import Denial
from sevenball.tails import lost_tail
from sevenball.words import Word
from tests.readings import LETTERS, mark_at, short_words, struck, undone
from tests.test_nets import NONE, led, products, put_anew, ring, thrown_word, thrown_words, words
from tests.values import EVEN, HUGE, NOT_WORDS, Case, some_function

SHORT = short_words(3)
EVENS = Lot([Word("A" + letter) for letter in "ABCDbcd"])
THREES = Lot(words("AAA", "B", "ABa", "AABaa", "C", "ACa", "AACaa", "D", "ADa", "AADaa"))
LOTS = [Lot(thrown_words(seed)) for seed in range(60)] + [EVENS, THREES, Lot([]), Lot(words("A", "B", "C", "D")), Lot(words("ABAB"))]
NOT_LOTS = [None, True, 0, HUGE, "", "lot", (), [], {}, some_function, Lot, Word("A"), [Word("A")], EVEN, Denial(), EVENS.net]


def crowd(many, seed):
    """Rows of so many places from each of which all letters lead on."""
    thrown = random.Random(seed)
    rows = [list(NONE) for _ in range(many)]
    for letter in range(4):
        to = list(range(1, many)) + [0] if letter == 0 else thrown.sample(range(many), many)
        for at in range(many):
            rows[at][letter], rows[to[at]][letter + 4] = to[at], at
    return rows


class Told(Case):
    def test_attributes(self):
        for seed, lot in enumerate(LOTS):
            self.assertEqual(Lot.of_net(rows=lot.net), lot)
            self.assertTrue(Lot.of_net(put_anew(lot.net, seed)).net == lot.net)
            great = sum(to is not None for row in lot.net for to in row[:4])
            self.assertEqual(lot.rank, great - len(lot.net) + 1)
            full = all(to is not None for row in lot.net for to in row)
            self.assertEqual(lot.index, len(lot.net) if full else None)
            if full:
                self.assertEqual(lot.rank, 3 * lot.index + 1)
            self.assertIs(type(lot.basis), tuple)
            self.assertEqual(len(lot.basis), lot.rank)
            for word in lot.basis:
                self.assertIn(word, lot)
            if lot.rank <= 8 and all(len(word) <= 20 for word in lot.basis):
                self.assertEqual(Lot(lot.basis), lot)
                self.assertEqual(Lot(list(lot.basis)[::-1]).rank, lot.rank)
        self.assertEqual(net_of(words("AB", "AC")), Lot(words=words("AB", "AC")).net)

    def test_lone(self):
        for rows, wanted in (
            ((), ""), (("",), ""), (("A",), "A"), (("b",), "B"), (("ABAB", "bababa"), "AB"), (("ABBa",), "ABBa"), (("AbA",), "AbA"),
            (("ABBa", "Abbba"), "ABa"), (("CdC", "cDc"), "CdC"), (("aaaa", "AAAAAA"), "AA"), (("cab", "cab"), "BAC"), (("AB", "BA"), None),
            (("A", "B"), None), (("AA", "AB"), None),
        ):
            lot = Lot(words(*rows))
            self.assertEqual(lot.lone, None if wanted is None else Word(wanted))
            self.assertEqual(lot.rank >= 2, wanted is None)
        for lot in LOTS:
            if lot.lone is not None:
                self.assertLessEqual(lot.lone, ~lot.lone)
                self.assertEqual(Lot([lot.lone]), lot)

    def test_great_nets(self):
        rows = ring(200)
        rows[100][2] = rows[100][6] = 100
        path = [list(NONE) for _ in range(200)]
        for at in range(198):
            path[at][0], path[at + 1][4] = at + 1, at
        path[198][1], path[199][5], path[199][1], path[198][5] = 199, 198, 198, 199
        for told in (rows, path, crowd(200, 3), ring(200, "ABcDDaCb")):
            lot = self.comes_soon(lambda: Lot.of_net(told))
            self.assertLessEqual(max(len(word) for word in self.comes_soon(lambda: lot.basis)), 500)
            self.assertEqual(len(lot.basis), lot.rank)
            for word in lot.basis[::17]:
                self.assertEqual(lot.spelled(word), ((lot.basis.index(word), 1),))
                self.assertEqual(lot.spelled(~word), ((lot.basis.index(word), -1),))

    def test_equality(self):
        for one, other in itertools.product(LOTS[:20], repeat=2):
            self.assertIs(one == other, one.net == other.net)
        self.assertEqual(Lot(words("A", "B")), Lot(words("AB", "b", "")))
        for value in NOT_LOTS:
            self.assertIs(EVENS == value, False)

    def test_refusals(self):
        self.refuses(TooMany("words", 20), Lot, [Word("A")] * 21)
        self.refuses(TooMany("letters", 20), Lot, [Word("A" * 21)])
        for value in (*NOT_WORDS, [Word(), "A"]):
            if value != ():
                self.refuses(BadWord(0), Lot, value)
                self.refuses(BadLot("rows"), Lot.of_net, value)
        self.refuses(BadLot("rows"), Lot.of_net, ring(201, "A"))


class Words(Case):
    def test_inside(self):
        for seed in range(60):
            told = thrown_words(seed)
            lot, inside = LOTS[seed], products(told)
            for letters in list(inside)[:200]:
                self.assertIn(Word(letters), lot)
            for word in SHORT:
                place = led(lot.net, word.letters)
                self.assertIs(word in lot, place == 0)
                self.assertEqual(lot.place(word=word), place)
                self.assertIs(mark_at(lot.machine().rows, word.letters), place == 0)
                spelled = lot.spelled(word=word)
                self.assertEqual(spelled is None, place != 0)
                if spelled is not None:
                    self.assertIs(type(spelled), tuple)
                    letters = "".join(lot.basis[at].letters if sign == 1 else undone(lot.basis[at].letters) for at, sign in spelled)
                    self.assertEqual(struck(letters), word.letters)
                    self.assertTrue(all(one[0] != other[0] or one[1] == other[1] for one, other in zip(spelled, spelled[1:])))
        for value in NOT_WORDS:
            self.assertIs(value in EVENS, False)
            for call in (EVENS.place, EVENS.rest, EVENS.spelled):
                self.refuses(BadWord(0), call, value)

    def test_rests(self):
        for seed, lot in enumerate(LOTS):
            inside = [Word(letters) for letters in list(products(thrown_words(seed), 6, 300))] if seed < 60 else [Word()]
            for word in SHORT[::3]:
                rest = lot.rest(word=word)
                self.assertIn(word * ~rest, lot)
                for one in inside:
                    self.assertLessEqual(rest, one * word)
                    self.assertEqual(lot.rest(one * word), rest)
        for lot, wanted in ((EVENS, ["-", "A"]), (THREES, ["-", "A", "a"]), (LOTS[63], ["-"])):
            self.assertEqual([str(word) for word in lot.rests()], wanted)
            self.assertIs(type(lot.rests()), tuple)
            self.assertEqual({lot.rest(word).letters for word in SHORT}, {word.letters for word in lot.rests()})
        self.assertIsNone(Lot(words("AB", "AC")).rests())
        self.assertEqual(len(Lot.of_net(crowd(200, 1)).rests()), 200)

    def test_machine(self):
        self.assertEqual(EVENS.machine(), lengths(2, [0]))
        self.assertEqual(Lot([]).machine(), up_to(0))
        self.assertNotEqual(Lot([]).machine(), nothing())
        self.assertIsNone(self.comes_soon(lambda: lost_tail(Lot.of_net(crowd(200, 2)).machine())))
        self.assertIsNotNone(self.comes_soon(lambda: lost_tail(Lot(words("AB", "AC")).machine())))
        for lot in LOTS:
            if lot.index is not None or len(lot.net) <= 4:
                self.assertIs(self.comes_soon(lambda: lost_tail(lot.machine())) is None, lot.index is not None)

    def test_long_words(self):
        far = Word("ABcD" * 1000)
        for lot in (EVENS, THREES, Lot(words("ABcD")), Lot.of_net(crowd(200, 5))):
            rest = self.comes_soon(lambda: lot.rest(far))
            self.assertIs(far in lot, rest == Word())
            self.assertIs(self.comes_soon(lambda: lot.spelled(far)) is None, far not in lot)
        one = Lot(words("ABcD"))
        self.assertTrue(one.spelled(far) == ((0, 1 if one.basis == (Word("ABcD"),) else -1),) * 1000)


class PutTogether(Case):
    def test_words_of_both(self):
        for one, other in itertools.product(LOTS[:62:4], LOTS[1:62:5]):
            both, either = one & other, one | other
            for word in SHORT:
                self.assertIs(word in both, word in one and word in other)
                self.assertTrue(word in either or not (word in one or word in other))
            self.assertIs(both.within(one) and both.within(other), True)
            self.assertIs(one.within(either) and other.within(either), True)
            self.assertIs(one.within(other), both == one)
            self.assertIs(one.within(other), all(word in other for word in one.basis))
            self.assertEqual(either, other | one)
            if one.rank + other.rank <= 20 and all(len(word) <= 20 for word in one.basis + other.basis):
                self.assertEqual(either, Lot(one.basis + other.basis))
            for net in (both.net, either.net):
                self.assertTrue(len(net) > 200 or Lot.of_net(net).net == net)
        self.assertIs(EVENS.within(other=THREES), False)
        self.assertEqual((EVENS & THREES).index, 6)

    def test_too_many_places(self):
        one, other = Lot.of_net(ring(199, "A")), Lot.of_net(ring(10, "A"))
        self.assertEqual(len((one & other).net), 1990)
        self.assertEqual(len((Lot.of_net(ring(200, "A")) & other).net), 200)
        self.refuses(TooMany("places", 2000), lambda: one & Lot.of_net(ring(11, "A")))
        self.assertEqual(len((Lot.of_net(ring(125, "A")) & Lot.of_net(ring(16, "A"))).net), 2000)
        self.refuses(TooMany("places", 2000), lambda: Lot.of_net(ring(29, "A")) & Lot.of_net(ring(69, "A")))
        self.refuses(TooMany("places", 2000), lambda: Lot.of_net(crowd(200, 1)) & Lot.of_net(crowd(199, 2)))
        great = [one & other, Lot.of_net(ring(199, "B")) & Lot.of_net(ring(10, "B"))]
        self.refuses(TooMany("places", 2000), lambda: great[0] | great[1])
        small = self.comes_soon(lambda: great[0] | Lot.of_net(ring(11, "B")))
        self.assertEqual(len(small.net), 2000)
        self.assertEqual(self.comes_soon(lambda: Lot.of_net(crowd(200, 1)) | Lot.of_net(crowd(200, 2))).index is None, False)
        thrown = random.Random(8)
        told = [[thrown_word(thrown, 20) for _ in range(20)] for _ in range(2)]
        lots = [Lot(row) for row in told]
        self.comes_soon(lambda: lots[0] | lots[1])
        self.comes_soon(lambda: lots[0] & lots[1])

    def test_what_is_no_lot(self):
        for value in NOT_LOTS:
            for call in (lambda: EVENS & value, lambda: EVENS | value, lambda: EVENS.within(value)):
                self.refuses(BadLot("other"), call)


class Kept(Case):
    def test_kept_from(self):
        for seed, lot in enumerate(LOTS):
            for word in [*SHORT[seed % 7::40], Word("ABcDab")]:
                if word in lot:
                    self.refuses(BadWord(0), lot.kept_from, word)
                    continue
                kept = lot.kept_from(word=word)
                self.assertIsNotNone(kept.index)
                self.assertNotIn(word, kept)
                self.assertIs(lot.within(kept), True)
                self.assertEqual(Lot.of_net(kept.net) if kept.index <= 200 else kept, kept)
                self.assertEqual(Lot.of_net(lot.net).kept_from(word), kept)
        for value in NOT_WORDS:
            self.refuses(BadWord(0), EVENS.kept_from, value)

    def test_bounds(self):
        lot = Lot(words("AB", "AC"))
        self.assertEqual(self.comes_soon(lambda: lot.kept_from(Word("D" * 1998))).index, 2000)
        self.refuses(TooMany("places", 2000), lot.kept_from, Word("D" * 1999))
        # The letters that lead to a place are not counted.
        self.assertEqual(self.comes_soon(lambda: lot.kept_from(Word("A" + "D" * 1998))).index, 2000)
        self.refuses(TooMany("places", 2000), lot.kept_from, Word("AB" * 900 + "D" * 1999))
        self.assertEqual(lot.kept_from(Word("AB" * 900 + "D" * 90)).index, 92)

    def test_nothing_changes(self):
        told, rows = words("AB", "AC"), ring(5)
        lot, other = Lot(told), Lot.of_net(ring(6))
        before = (lot.net, lot.rank, lot.index, lot.basis, lot.lone)
        lot & other, lot | other, lot.within(other), lot.kept_from(Word("A")), lot.machine(), lot.rests(), lot.rest(Word("D"))
        with self.assertRaises(ValueError):
            lot & None
        self.assertEqual((lot.net, lot.rank, lot.index, lot.basis, lot.lone), before)
        self.assertEqual(told, words("AB", "AC"))
        Lot.of_net(rows)
        self.assertEqual(rows, ring(5))
        self.assertEqual(len(LETTERS), 8)
